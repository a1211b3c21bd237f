/- What is left of one curve when another one is taken away, as mathematics: the greatest difference so far, and the least one from a tick on. Nothing here speaks of the program. By the verifier's side. | Functions that are given like curves, perhaps beyond the limits: which curve they have, if any. Nothing here speaks of the program. By the verifier's side. | The document's operations on curves as mathematics: what is handed to Made, and when there is no curve. Nothing here speaks of the program. By the verifier's side. -/
import Derived.Test.YtknimlpdpgpliaaFPwFPwXPwG
namespace Go.Proofs.Ytknimlpdpgpliaa
set_option linter.unusedVariables false

/-! ## The greatest so far -/

section
variable {D D' : Nat → Option Int}
end

section
variable {d : Nat → Int} {S L : Nat} {δ : Int}
end

/-! ## The least from a tick on -/

section
variable {D D' : Nat → Option Int}
end

/-! ## The differences of two curves -/

section
variable {zs ys : List Int} {p q : Nat} {inc jnc : Int}
/-! ### The greatest so far -/

/-! ### The least from a tick on -/

end

end Go.Proofs.Ytknimlpdpgpliaa

namespace Go.Proofs.Ytknimlpdpgpliaa

/-- A function that is given like a curve, all finite. -/
structure RawC (zs : List Int) (p : Nat) (inc : Int) : Prop where
  few : zs.length ≤ 8192
  p1 : 1 ≤ p
  p2 : p ≤ 1024
  p3 : p ≤ zs.length
  i0 : 0 ≤ inc
  i1 : inc ≤ 35184372088832
  val : ∀ i, i < zs.length → 0 ≤ zs.getD i 0 ∧ zs.getD i 0 ≤ 2251799813685248

theorem RawC.fin {zs : List Int} {p : Nat} {inc : Int} (h : RawC zs p inc) : ¬ zs.getD (zs.length - 1) 0 = infV := by
  have h1 := h.p1; have h3 := h.p3
  have := h.val (zs.length - 1) (by omega)
  unfold infV; omega
theorem RawC.small {zs : List Int} {p : Nat} {inc : Int} (h : RawC zs p inc) {i : Nat} (hi : i < zs.length) : 0 ≤ zs.getD i 0 ∧ zs.getD i 0 ≤ 2251799813685248 := h.val i hi
theorem RawC.per {zs : List Int} {p : Nat} {inc : Int} (h : RawC zs p inc) : Per (atC zs p inc) (zs.length - p) p inc := atC_per h.p1 h.p3 h.fin
theorem RawC.bd {zs : List Int} {p : Nat} {inc : Int} (h : RawC zs p inc) (t : Nat) : 0 ≤ atC zs p inc t ∧ atC zs p inc t ≤ 2251799813685248 + 35184372088832 * ((t : Int) + 1) := by
  have h0 := h.i0
  have h1 := h.i1
  induction t using Nat.strongRecOn with
  | ind t ih =>
    have hp := h.p3; have hp1 := h.p1
    by_cases hlt : t < zs.length
    · rw [atC_lt hlt]; have := h.small hlt; omega
    · have e := h.per (t - p) (by omega)
      have := ih (t - p) (by omega)
      rw [show t - p + p = t by omega] at e
      omega

theorem raw_tame {zs : List Int} {p : Nat} {inc : Int} {E : Nat → Option Int} (h : RawC zs p inc) (hE : ∀ t, E t = some (atC zs p inc t)) : Tame E :=
  ⟨fun t hx => (by rw [hE] at hx; cases hx), .inl ⟨400, Nat.le_refl _, _, hE 400, by have := h.bd 400; unfold infV; omega⟩⟩

theorem raw_form {zs : List Int} {p : Nat} {inc : Int} {E : Nat → Option Int} (h : RawC zs p inc) (hE : ∀ t, E t = some (atC zs p inc t)) {s r : Nat} {c : Int} (hn : NormOf (atC zs p inc) s r c) :
    (Good (firsts (atC zs p inc) (s + r)) r c → EForm (firsts (atC zs p inc) (s + r)) r c E) ∧ (¬ Good (firsts (atC zs p inc) (s + r)) r c → ¬ ECan E) := by
  have hF : encF E = atC zs p inc := funext fun t => by unfold encF; rw [hE]; rfl
  refine ⟨fun g => eform_of (raw_tame h hE) (by rw [hF]; exact form_of hn g), fun hno hc => no_form hn hno ?_⟩
  have := hc.can
  rwa [hF] at this

theorem raw_inf {zs : List Int} {i : Nat} {E : Nat → Option Int} (hi : i < zs.length) (hz : zs.getD i 0 = infV) (hj : ∀ j, j < i → ¬ zs.getD j 0 = infV) (hE : ∀ t, E t = if t < i then some (zs.getD t 0) else none) :
    (Good (zs.take (i + 1)) 1 0 → EForm (zs.take (i + 1)) 1 0 E) ∧ (¬ Good (zs.take (i + 1)) 1 0 → ¬ ECan E) := by
  have hl : (zs.take (i + 1)).length = i + 1 := by rw [List.length_take]; omega
  have hlast : InfC (zs.take (i + 1)) := by rw [infC_iff, hl, Nat.add_sub_cancel, getD_take (by omega)]; exact hz
  constructor
  · intro g
    have hN : NormC (zs.take (i + 1)) 1 0 (zs.take (i + 1)) 1 0 := .inr ⟨i, by omega, by rw [getD_take (by omega)]; exact hz, fun j h => by rw [getD_take (by omega)]; exact hj j h, by rw [List.take_take, Nat.min_self], rfl, rfl⟩
    have hf := hN.eform g
    rw [show eC (zs.take (i + 1)) 1 0 = E from funext fun t => ?_] at hf
    · exact hf
    rw [hE]
    by_cases ht : t < i
    · rw [if_pos ht]
      unfold eC
      have e : atC (zs.take (i + 1)) 1 0 t = zs.getD t 0 := by rw [atC_lt (by omega), getD_take (by omega)]
      rw [e, if_neg (fun hx => hj t ht hx.2)]
    · rw [if_neg ht]
      exact eC_late g hlast (by omega)
  · rintro hno ⟨xs, q, j, g, he⟩
    have h0 : eC xs q j i = none := by rw [he, hE, if_neg (Nat.lt_irrefl _)]
    obtain ⟨hx, ha⟩ := eC_none.1 h0
    have hlow : ∀ t, t < i → atC xs q j t = zs.getD t 0 := fun t ht => by
      have h1 : eC xs q j t = some (zs.getD t 0) := by rw [he, hE, if_pos ht]
      exact (eC_bd g h1).2.2
    have h1 := g.p1; have h3 := g.p3
    have hlen : i < xs.length := by
      refine Nat.lt_of_not_le fun hle => ?_
      have e := hlow (xs.length - 1) (by omega)
      rw [atC_inf hx (Nat.le_refl _) (by omega)] at e
      exact hj _ (by omega) e.symm
    have htk : xs.take (i + 1) = zs.take (i + 1) := list_ext_getD (by rw [hl, List.length_take]; omega) fun k hk => by
      rw [List.length_take] at hk
      rw [getD_take (by omega), getD_take (by omega)]
      by_cases hki : k < i
      · rw [← hlow k hki, atC_lt (by omega)]
      · rw [show k = i by omega, hz, ← ha, atC_lt hlen]
    have hN : NormC xs q j (zs.take (i + 1)) 1 0 := .inr ⟨i, hlen, by rw [← atC_lt (p := q) (inc := j) hlen]; exact ha, fun k hk => by rw [← atC_lt (p := q) (inc := j) (show k < xs.length by omega), hlow k hk]; exact hj k hk, htk.symm, rfl, rfl⟩
    exact hno (hN.good g)

/-- What is handed to Made: the values up to a tick from which on they grow in each period, or up to an infinite one. -/
def RawE (zs : List Int) (p : Nat) (inc : Int) (E : Nat → Option Int) : Prop :=
  (RawC zs p inc ∧ ∀ t, E t = some (atC zs p inc t)) ∨
  (zs.length ≤ 8192 ∧ ∃ i, i < zs.length ∧ zs.getD i 0 = infV ∧ (∀ j, j < i → ¬ zs.getD j 0 = infV) ∧ ∀ t, E t = if t < i then some (zs.getD t 0) else none)

theorem rawE_of {E : Nat → Option Int} {N L : Nat} {inc : Int} (hN : N ≤ 8192) (h1 : 1 ≤ L) (h2 : L ≤ 1024) (h3 : L ≤ N) (hi : 0 ≤ inc ∧ inc ≤ 35184372088832)
    (up : ∀ t, E t = none → E (t + 1) = none) (bd : ∀ t, t < N → ∀ x, E t = some x → 0 ≤ x ∧ x ≤ 2251799813685248)
    (fin : (∀ t, ¬ E t = none) → Per (encF E) (N - L) L inc) (inf : (∃ t, E t = none) → ∃ t, t < N ∧ E t = none) : RawE (firsts (encF E) N) L inc E := by
  have hl := firsts_length (encF E) N
  by_cases h : ∃ t, E t = none
  · obtain ⟨i, hz, hj⟩ := least_ex h
    obtain ⟨u, hu, hu0⟩ := inf h
    have hiN : i < N := by
      refine Nat.lt_of_not_le fun hle => ?_
      exact hj u (by omega) hu0
    refine .inr ⟨by omega, i, by omega, ?_, fun j hji hx => ?_, fun t => ?_⟩
    · rw [firsts_getD _ _ _ hiN]; unfold encF; rw [hz]; rfl
    · rw [firsts_getD _ _ _ (by omega)] at hx
      cases hE : E j with
      | none => exact hj j hji hE
      | some x => unfold encF at hx; rw [hE] at hx; have := bd j (by omega) x hE; change x = infV at hx; unfold infV at hx; omega
    · by_cases ht : t < i
      · rw [if_pos ht, firsts_getD _ _ _ (by omega)]
        cases hE : E t with
        | none => exact absurd hE (hj t ht)
        | some x => unfold encF; rw [hE]; rfl
      · rw [if_neg ht]
        have := stays up hz (t - i)
        rwa [show i + (t - i) = t by omega] at this
  · have hs : ∀ t, ¬ E t = none := fun t hx => h ⟨t, hx⟩
    have hv : ∀ t, E t = some (encF E t) := fun t => by
      cases hE : E t with
      | none => exact absurd hE (hs t)
      | some x => unfold encF; rw [hE]; rfl
    have hr : RawC (firsts (encF E) N) L inc := ⟨by omega, h1, h2, by omega, hi.1, hi.2, fun i hi => by
      rw [hl] at hi
      rw [firsts_getD _ _ _ hi]
      exact bd i hi _ (hv i)⟩
    refine .inl ⟨hr, fun t => ?_⟩
    rw [hv]
    congr 1
    have hp := hr.per
    rw [hl] at hp
    exact ((fin hs).ext hp h1 fun t ht => by rw [atC_lt (by omega), firsts_getD _ _ _ (by omega)]) t


section
variable {zs ys : List Int} {p q : Nat} {inc jnc : Int}

theorem inf_none (g : Good zs p inc) (h : ∃ t, eC zs p inc t = none) : eC zs p inc (zs.length - 1) = none := by
  obtain ⟨t, ht⟩ := h
  exact eC_late g (eC_none.1 ht).1 (Nat.le_refl _)

theorem fin_of (g : Good zs p inc) (h : ∀ t, ¬ eC zs p inc t = none) : ¬ InfC zs := fun hi => h _ (eC_late g hi (Nat.le_refl _))

end

end Go.Proofs.Ytknimlpdpgpliaa

namespace Go.Proofs.Ytknimlpdpgpliaa

section
variable {zs ys : List Int} {p q : Nat} {inc jnc : Int}

/-! ## Sums -/

theorem enc_sum (h1 : ¬ InfC zs) (h2 : ¬ InfC ys) (t : Nat) : encF (eSum zs p inc ys q jnc) t = atC zs p inc t + atC ys q jnc t := by
  refine encF_some ?_
  unfold eSum; rw [eC_fin h1, eC_fin h2]; rfl

theorem grow_bd (g : Good zs p inc) {L : Nat} (hL2 : L ≤ 120) : 0 ≤ inc * ((L / p : Nat) : Int) ∧ inc * ((L / p : Nat) : Int) ≤ 128849018880 := by
  have h0 := g.i0; have h1 := g.i1
  have h2 : L / p ≤ 120 := Nat.le_trans (Nat.div_le_self _ _) hL2
  generalize L / p = m at h2 ⊢
  have : inc * (m : Int) ≤ 1073741824 * 120 := Int.mul_le_mul h1 (by omega) (by omega) (by omega)
  exact ⟨Int.mul_nonneg h0 (by omega), by omega⟩

theorem Good.perM (g : Good zs p inc) (hf : ¬ InfC zs) {L m : Nat} (hL : L / p * p = L) (hm : zs.length - p ≤ m) : Per (atC zs p inc) m L (inc * ((L / p : Nat) : Int)) := by
  have h := (g.per hf).mul (L / p)
  rw [hL, Int.mul_comm] at h
  exact h.mono hm

theorem sum_raw (g : Good zs p inc) (k : Good ys q jnc) {L : Nat} (hL : Lcm p q L) (hL2 : L ≤ 120) {m : Nat} (h1 : zs.length ≤ m) (h2 : ys.length ≤ m) (hm : m ≤ 400) :
    RawE (firsts (encF (eSum zs p inc ys q jnc)) (m + L)) L (inc * ((L / p : Nat) : Int) + jnc * ((L / q : Nat) : Int)) (eSum zs p inc ys q jnc) := by
  have b1 := grow_bd g hL2
  have b2 := grow_bd k hL2
  have a1 := hL.one
  have g1 := g.p1; have g3 := g.p3; have k1 := k.p1; have k3 := k.p3
  have no1 : ∀ t, eC zs p inc t = none → eSum zs p inc ys q jnc t = none := fun t h => by unfold eSum; rw [h, oadd_none_l]
  have no2 : ∀ t, eC ys q jnc t = none → eSum zs p inc ys q jnc t = none := fun t h => by unfold eSum; rw [h, oadd_none_r]
  refine rawE_of (by omega) a1 (by omega) (by omega) (by omega) (sum_up g k) (fun t ht x hx => ?_) (fun hs => ?_) (fun h => ?_)
  · obtain ⟨y, z, hy, hz, rfl⟩ := both_some hx
    have c1 := eC_bd g hy
    have c2 := eC_bd k hz
    omega
  · have f1 : ¬ InfC zs := fin_of g fun t h => hs t (no1 t h)
    have f2 : ¬ InfC ys := fin_of k fun t h => hs t (no2 t h)
    intro t ht
    have e1 := g.perM f1 hL.dp (m := m) (by omega) t (by omega)
    have e2 := k.perM f2 hL.dq (m := m) (by omega) t (by omega)
    rw [enc_sum f1 f2, enc_sum f1 f2]
    omega
  · obtain ⟨t, ht⟩ := h
    cases hz : eC zs p inc t with
    | none => exact ⟨zs.length - 1, by omega, no1 _ (inf_none g ⟨t, hz⟩)⟩
    | some y =>
      cases hy : eC ys q jnc t with
      | none => exact ⟨ys.length - 1, by omega, no2 _ (inf_none k ⟨t, hy⟩)⟩
      | some z => unfold eSum at ht; rw [hz, hy] at ht; cases ht

/-! ## The lesser and the greater of two -/

/-- Where a curve is below one that grows less, the lesser and the greater one of them are no curves. -/
theorem over {a b : Nat → Int} {L : Nat} {ca cb : Int} (ha : Per a 400 L ca) (hb : Per b 400 L cb) (hL : 1 ≤ L) {u : Nat} (hu : 400 ≤ u) (hne : a u < b u) (hlt : cb < ca) : ¬ CanBe (minF a b) ∧ ¬ CanBe (maxF a b) := by
  have hd : Per (fun t => b t - a t) 400 L (cb - ca) := fun t ht => by have := ha t ht; have := hb t ht; show b (t + L) - a (t + L) = b t - a t + (cb - ca); omega
  obtain ⟨S, _, hf⟩ := falls hd hL (by omega)
  have hS : S ≤ S * L := Nat.le_mul_of_pos_right _ hL
  have e1 := ha.mul S u hu
  have e2 := hb.mul S u hu
  have e3 : b (u + S * L) - a (u + S * L) ≤ 0 := hf (u + S * L) (by omega)
  constructor
  · intro hc
    obtain ⟨S', hm⟩ := min_late ha hb hL
    have h := (hc.late hm).mul S u hu
    rw [show min ca cb = cb by omega] at h
    unfold minF at h
    omega
  · intro hc
    obtain ⟨S', hm⟩ := max_late ha hb hL
    have h := (hc.late hm).mul S u hu
    rw [show max ca cb = ca by omega] at h
    unfold maxF at h
    omega

/-! ## One curve -/

end

end Go.Proofs.Ytknimlpdpgpliaa
