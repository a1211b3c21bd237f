/- Which curves there are of small ones: delays, sums, multiples; and what the operations undo. Nothing here speaks of the program. By the verifier's side. | Which sums and multiples there are of curves that were drawn. Nothing here speaks of the program. By the verifier's side. | Multiples of curves: which there are, and that they distribute over sums and minima. Nothing here speaks of the program. By the verifier's side. | The order of values that may be infinite, and of curves. Nothing here speaks of the program. By the verifier's side. | Which delays, advances and reductions there are of curves that are short and small, infinite ones too. Nothing here speaks of the program. By the verifier's side. | Functions of ticks as drawn curves, their sums and multiples are: with a common period, small, and early settled. Nothing here speaks of the program. By the verifier's side. | Sums, minima and maxima of values that may be infinite distribute. Nothing here speaks of the program. By the verifier's side. -/
import Derived.Test.YtcpfphlijeajiaaGcPwO
namespace Go.Proofs.Ytcpfphlijeajiaa

end Go.Proofs.Ytcpfphlijeajiaa

namespace Go.Proofs.Ytcpfphlijeajiaa

theorem can_of_inf {E : Nat → Option Int} (hu : ∀ t, E t = none → E (t + 1) = none) (hex : E 399 = none) (hb : ∀ t x, t ≤ 399 → E t = some x → 0 ≤ x ∧ x ≤ 1073741824) (hm : ∀ t x y, E t = some x → E (t + 1) = some y → x ≤ y) : ECan E := by
  obtain ⟨i, hi, hl⟩ := least_ex (P := fun t => E t = none) ⟨399, hex⟩
  have hi9 : i ≤ 399 := Nat.le_of_not_lt fun h => hl 399 h hex
  have hs : ∀ t, t < i → E t = some (encF E t) := fun t ht => by
    unfold encF
    cases h : E t with
    | none => exact absurd h (hl t ht)
    | some x => rfl
  refine can_inf (F := encF E) hi9 hs (fun t ht => ?_) (fun t ht => hb t _ (by omega) (hs t ht)) (fun t ht => hm t _ _ (hs t (by omega)) (hs (t + 1) ht))
  rw [show t = i + (t - i) by omega]
  exact stays hu hi _

section
variable {zs ys : List Int} {p q most : Nat} {inc jnc : Int}

theorem eC_mono (g : Good zs p inc) {t : Nat} {x y : Int} (h : eC zs p inc t = some x) (k : eC zs p inc (t + 1) = some y) : x ≤ y := by
  have h1 := (eC_bd g h).2.2
  have h2 := (eC_bd g k).2.2
  have := g.step t
  omega

end

end Go.Proofs.Ytcpfphlijeajiaa

namespace Go.Proofs.Ytcpfphlijeajiaa

section
variable {zs ys : List Int} {p q most : Nat} {inc jnc k : Int}

/-- A multiple of a curve with small values is a curve. -/
theorem mul_can (g : Good zs p inc) (hb : ∀ t x, t ≤ 400 → eC zs p inc t = some x → x ≤ 100000) (h1 : 1 ≤ k) (h9 : k ≤ 9) : ECan (eScale k zs p inc) := by
  have a1 := g.p1; have a3 := g.p3; have a4 := g.few; have a5 := g.p2
  have hmul : ∀ x : Int, 0 ≤ x → x ≤ 100000 → 0 ≤ k * x ∧ k * x ≤ 900000 := fun x h h' => by
    refine ⟨Int.mul_nonneg (by omega) h, ?_⟩
    have : k * x ≤ 9 * 100000 := Int.mul_le_mul h9 h' h (by omega)
    omega
  have hle : ∀ x y : Int, x ≤ y → k * x ≤ k * y := fun x y h => Int.mul_le_mul_of_nonneg_left h (by omega)
  by_cases hi : InfC zs
  · refine can_of_inf (fun t h => ?_) (by unfold eScale; rw [eC_400 g hi (Nat.le_refl _)]; rfl) (fun t x ht hx => ?_) (fun t x y hx hy => ?_)
    · unfold eScale at *
      cases h4 : eC zs p inc t with
      | none => rw [eC_up g h4]; rfl
      | some x => rw [h4] at h; cases h
    · unfold eScale at hx
      cases h4 : eC zs p inc t with
      | none => rw [h4] at hx; cases hx
      | some y =>
        rw [h4] at hx; cases hx
        have := hmul y (eC_bd g h4).1 (hb t y (by omega) h4)
        show 0 ≤ k * y ∧ k * y ≤ 1073741824
        omega
    · unfold eScale at hx hy
      cases h4 : eC zs p inc t with
      | none => rw [h4] at hx; cases hx
      | some u =>
        cases h5 : eC zs p inc (t + 1) with
        | none => rw [h5] at hy; cases hy
        | some v =>
          rw [h4] at hx; cases hx; rw [h5] at hy; cases hy
          exact hle u v (eC_mono g h4 h5)
  · have hv : ∀ t, t ≤ 400 → 0 ≤ atC zs p inc t ∧ atC zs p inc t ≤ 100000 := fun t ht => ⟨(g.bd hi t).1, hb t _ ht (eC_fin hi p inc t)⟩
    have hinc : inc ≤ 100000 := by
      have e := g.per hi (zs.length - p) (Nat.le_refl _)
      rw [show zs.length - p + p = zs.length by omega] at e
      have := hv zs.length (by omega)
      have := hv (zs.length - p) (by omega)
      omega
    refine can_fin (F := fun t => k * atC zs p inc t) (s := zs.length - p) (p := p) (c := k * inc) (fun t => by unfold eScale; rw [eC_fin hi]; rfl) (fun t ht => ?_) a1 a5 (by omega) (hmul _ (hv 0 (by omega)).1 (hv 0 (by omega)).2).1 (fun t _ => hle _ _ (g.step t)) ?_ ?_
    · show k * atC zs p inc (t + p) = k * atC zs p inc t + k * inc
      rw [g.per hi t ht, Int.mul_add]
    · have := hmul _ (hv (zs.length - p + p - 1) (by omega)).1 (hv (zs.length - p + p - 1) (by omega)).2
      show k * atC zs p inc (zs.length - p + p - 1) ≤ 1073741824
      omega
    · have := hmul inc g.i0 hinc
      omega

end

end Go.Proofs.Ytcpfphlijeajiaa

namespace Go.Proofs.Ytcpfphlijeajiaa

/-- At most, where none is the greatest. -/
def ole (a b : Option Int) : Prop := ∀ y, b = some y → ∃ x, a = some x ∧ x ≤ y

theorem ole_refl (a : Option Int) : ole a a := fun y h => ⟨y, h, Int.le_refl _⟩
theorem ole_none (a : Option Int) : ole a none := fun y h => by cases h
theorem ole_some {x y : Int} (h : x ≤ y) : ole (some x) (some y) := fun z hz => by cases hz; exact ⟨x, rfl, h⟩
theorem ole_trans {a b c : Option Int} (h : ole a b) (k : ole b c) : ole a c := fun z hz => by
  obtain ⟨y, hy, h1⟩ := k z hz
  obtain ⟨x, hx, h2⟩ := h y hy
  exact ⟨x, hx, by omega⟩
theorem ole_omin_l (a b : Option Int) : ole (omin a b) a := fun y hy => by
  subst hy
  cases b with
  | none => exact ⟨y, rfl, Int.le_refl _⟩
  | some z => exact ⟨min y z, rfl, by omega⟩
theorem ole_omin_r (a b : Option Int) : ole (omin a b) b := fun y hy => by
  subst hy
  cases a with
  | none => exact ⟨y, rfl, Int.le_refl _⟩
  | some z => exact ⟨min z y, rfl, by omega⟩
theorem ole_omax_l (a b : Option Int) : ole a (omax a b) := fun y hy => by
  obtain ⟨u, v, rfl, rfl, rfl⟩ := both_some_max hy
  exact ⟨u, rfl, by omega⟩
theorem ole_oadd {a b : Option Int} (hb : ∀ y, b = some y → 0 ≤ y) : ole a (oadd a b) := fun y hy => by
  obtain ⟨u, v, rfl, rfl, rfl⟩ := both_some hy
  have := hb v rfl
  exact ⟨u, rfl, by omega⟩
/-- Of two curves whose values are so the first is at most the second at every tick. -/
theorem excP_of {zs ys : List Int} {p q : Nat} {inc jnc : Int} (h : ∀ t, ole (eC zs p inc t) (eC ys q jnc t)) : ExcP (dC zs p inc ys q jnc) 0 false := by
  refine .inr ⟨rfl, rfl, fun t => ?_⟩
  cases h2 : eC ys q jnc t with
  | none =>
    have k2 := eC_none.1 h2
    unfold dC
    by_cases h1 : InfC zs ∧ atC zs p inc t = infV
    · rw [if_pos h1, if_pos k2]; omega
    · rw [if_neg h1, if_pos k2]; omega
  | some y =>
    obtain ⟨x, h1, hle⟩ := h t y h2
    have k1 : ¬ (InfC zs ∧ atC zs p inc t = infV) := fun hx => by rw [eC_none.2 hx] at h1; cases h1
    have k2 : ¬ (InfC ys ∧ atC ys q jnc t = infV) := fun hx => by rw [eC_none.2 hx] at h2; cases h2
    have e1 : atC zs p inc t = x := by rw [← enc_eC, h1]; rfl
    have e2 : atC ys q jnc t = y := by rw [← enc_eC, h2]; rfl
    unfold dC
    rw [if_neg k1, if_neg k2, e1, e2]; omega

end Go.Proofs.Ytcpfphlijeajiaa

namespace Go.Proofs.Ytcpfphlijeajiaa

section
variable {zs : List Int} {p : Nat} {inc : Int}

/-- Short and small. -/
structure Mild (zs : List Int) (p : Nat) (inc : Int) : Prop where
  good : Good zs p inc
  len : zs.length ≤ 100
  bd : ∀ t x, t ≤ 400 → eC zs p inc t = some x → x ≤ 100000

theorem Mild.at (m : Mild zs p inc) (hf : ¬ InfC zs) {t : Nat} (ht : t ≤ 400) : 0 ≤ atC zs p inc t ∧ atC zs p inc t ≤ 100000 := ⟨(m.good.bd hf t).1, m.bd t _ ht (eC_fin hf p inc t)⟩

end

end Go.Proofs.Ytcpfphlijeajiaa

namespace Go.Proofs.Ytcpfphlijeajiaa

/-- From tick 16 on periodic by 24 ticks (or infinite), not decreasing, small up to tick 400. -/
structure Nice (K : Int) (E : Nat → Option Int) : Prop where
  up : ∀ t, E t = none → E (t + 1) = none
  mono : ∀ t x y, E t = some x → E (t + 1) = some y → x ≤ y
  bd : ∀ t x, t ≤ 400 → E t = some x → 0 ≤ x ∧ x ≤ K
  tail : (∀ t, 16 ≤ t → E t = none) ∨ ((∀ t, E t = some (encF E t)) ∧ ∃ c, Per (encF E) 16 24 c)

theorem encF_some {E : Nat → Option Int} {t : Nat} {x : Int} (h : E t = some x) : encF E t = x := by unfold encF; rw [h]; rfl
theorem encF_none {E : Nat → Option Int} {t : Nat} (h : E t = none) : encF E t = infV := by unfold encF; rw [h]; rfl

theorem per_none {E : Nat → Option Int} (h : ∀ t, 16 ≤ t → E t = none) : Per (encF E) 16 24 0 := fun t ht => by rw [encF_none (h t ht), encF_none (h (t + 24) (by omega))]; omega

theorem Nice.can {K : Int} {E : Nat → Option Int} (h : Nice K E) (hK : K ≤ 1000000000) : ECan E := by
  rcases h.tail with hn | ⟨hs, c, hp⟩
  · exact can_of_inf h.up (hn 399 (by omega)) (fun t x ht hx => by have := h.bd t x (by omega) hx; omega) h.mono
  · have b : ∀ t, t ≤ 400 → 0 ≤ encF E t ∧ encF E t ≤ K := fun t ht => h.bd t _ ht (hs t)
    refine can_fin hs hp (by omega) (by omega) (by omega) (b 0 (by omega)).1 (fun t _ => h.mono t _ _ (hs t) (hs (t + 1))) ?_ ?_
    · have := b (16 + 24 - 1) (by omega); omega
    · have e := hp 16 (by omega)
      have := b 16 (by omega)
      have := b (16 + 24) (by omega)
      omega

theorem Nice.per {K : Int} {E : Nat → Option Int} (h : Nice K E) : ∃ c, Per (encF E) 16 24 c := by
  rcases h.tail with hn | ⟨_, h⟩
  · exact ⟨0, fun t ht => by rw [encF_none (hn t ht), encF_none (hn (t + 24) (by omega))]; omega⟩
  · exact h

/-- The normal form of such a function is short, and its period divides 24. -/
theorem Nice.short {K : Int} {E : Nat → Option Int} (h : Nice K E) {zs : List Int} {p : Nat} {inc : Int} (f : EForm zs p inc E) : zs.length ≤ 40 ∧ 24 % p = 0 ∧ p ≤ 24 := by
  obtain ⟨c, hp⟩ := h.per
  obtain ⟨_, _, s, hs, hn⟩ := f.form
  have a1 := hn.start_le hp (by omega)
  have a2 := hn.per_le hp (by omega)
  have a3 := (hn.divides hp).1
  exact ⟨by omega, a3, a2⟩

theorem Nice.sum {K K' : Int} {E E' : Nat → Option Int} (h : Nice K E) (k : Nice K' E') : Nice (K + K') (fun t => oadd (E t) (E' t)) := by
  refine ⟨fun t hx => ?_, fun t x y hx hy => ?_, fun t x ht hx => ?_, ?_⟩
  · show oadd (E (t + 1)) (E' (t + 1)) = none
    replace hx : oadd (E t) (E' t) = none := hx
    cases h1 : E t with
    | none => rw [h.up t h1, oadd_none_l]
    | some u =>
      cases h2 : E' t with
      | none => rw [k.up t h2, oadd_none_r]
      | some v => rw [h1, h2] at hx; cases hx
  · obtain ⟨x1, x2, h1, h2, rfl⟩ := both_some hx
    obtain ⟨y1, y2, k1, k2, rfl⟩ := both_some hy
    have := h.mono t _ _ h1 k1
    have := k.mono t _ _ h2 k2
    omega
  · obtain ⟨x1, x2, h1, h2, rfl⟩ := both_some hx
    have := h.bd t _ ht h1
    have := k.bd t _ ht h2
    omega
  · rcases h.tail with hn | ⟨hs, c, hp⟩
    · exact .inl fun t ht => by show oadd (E t) (E' t) = none; rw [hn t ht, oadd_none_l]
    rcases k.tail with kn | ⟨ks, d, kp⟩
    · exact .inl fun t ht => by show oadd (E t) (E' t) = none; rw [kn t ht, oadd_none_r]
    have e : ∀ t, oadd (E t) (E' t) = some (encF E t + encF E' t) := fun t => by rw [hs t, ks t]; rfl
    have e2 : encF (fun t => oadd (E t) (E' t)) = fun t => encF E t + encF E' t := funext fun t => encF_some (e t)
    refine .inr ⟨fun t => by rw [e2]; exact e t, c + d, fun t ht => ?_⟩
    rw [e2]
    have := hp t ht
    have := kp t ht
    show encF E (t + 24) + encF E' (t + 24) = encF E t + encF E' t + (c + d)
    omega

/-- What is the curve of such a function has such values. -/
theorem Nice.of {K : Int} {E : Nat → Option Int} (h : Nice K E) {zs : List Int} {p : Nat} {inc : Int} (he : ∀ t, eC zs p inc t = E t) : Nice K (eC zs p inc) := by
  rw [show eC zs p inc = E from funext he]; exact h

theorem Nice.le {K K' : Int} {E : Nat → Option Int} (h : Nice K E) (hK : K ≤ K') : Nice K' E := ⟨h.up, h.mono, fun t x ht hx => by have := h.bd t x ht hx; omega, h.tail⟩

/-- The normal form's period divides 24 if from some tick on 24 is a period. -/
theorem NormC.div24 {zs zs' : List Int} {p p' : Nat} {inc inc' : Int} (g : Good zs p inc) (h : NormC zs p inc zs' p' inc') {s : Nat} {c : Int} (hp : Per (encF (eC zs p inc)) s 24 c) : 24 % p' = 0 := by
  obtain ⟨_, _, _, _, hn⟩ := (h.eform g).form
  exact (hn.divides hp).1

/-- The least common multiple of two divisors of 24 is one. -/
theorem lcm24 {a b : Nat} (ha : 24 % a = 0) (hb : 24 % b = 0) : 24 % (a / Nat.gcd a b * b) = 0 := by
  have e : a / Nat.gcd a b * b = Nat.lcm a b := by
    rw [Nat.lcm, Nat.mul_div_right_comm (Nat.gcd_dvd_left a b)]
  rw [e]
  exact Nat.mod_eq_zero_of_dvd (Nat.lcm_dvd (Nat.dvd_of_mod_eq_zero ha) (Nat.dvd_of_mod_eq_zero hb))

/-! ## The same from some tick on: minima and maxima -/

/-- In the end periodic by 24 ticks, and infinite or not. -/
def Day (E : Nat → Option Int) : Prop := ∃ s c, Per (encF E) s 24 c ∧ ((∀ t, s ≤ t → E t = none) ∨ ∀ t, s ≤ t → E t = some (encF E t))

theorem Day.per {E : Nat → Option Int} (h : Day E) : ∃ s c, Per (encF E) s 24 c := by obtain ⟨s, c, h, _⟩ := h; exact ⟨s, c, h⟩

theorem Day.of {E : Nat → Option Int} (h : Day E) {zs : List Int} {p : Nat} {inc : Int} (he : ∀ t, eC zs p inc t = E t) : Day (eC zs p inc) := by rw [show eC zs p inc = E from funext he]; exact h

theorem day_none {E : Nat → Option Int} {s : Nat} (h : ∀ t, s ≤ t → E t = none) : Day E :=
  ⟨s, 0, fun t ht => by rw [encF_none (h t ht), encF_none (h (t + 24) (by omega))]; omega, .inl h⟩

theorem day_some {E : Nat → Option Int} {F : Nat → Int} {s : Nat} {c : Int} (h : ∀ t, s ≤ t → E t = some (F t)) (hp : Per F s 24 c) : Day E :=
  ⟨s, c, fun t ht => by rw [encF_some (h t ht), encF_some (h (t + 24) (by omega))]; exact hp t ht, .inr fun t ht => by rw [encF_some (h t ht)]; exact h t ht⟩

theorem Day.min {E E' : Nat → Option Int} (h : Day E) (k : Day E') : Day (fun t => omin (E t) (E' t)) := by
  obtain ⟨s, c, hp, hn | hs⟩ := h
  · obtain ⟨s', c', kp, kn | ks⟩ := k
    · exact day_none (s := max s s') fun t ht => by show omin (E t) (E' t) = none; rw [hn t (by omega), kn t (by omega)]; rfl
    · exact day_some (s := max s s') (F := encF E') (fun t ht => by show omin (E t) (E' t) = _; rw [hn t (by omega), ks t (by omega)]; rfl) (kp.mono (by omega))
  · obtain ⟨s', c', kp, kn | ks⟩ := k
    · exact day_some (s := max s s') (F := encF E) (fun t ht => by show omin (E t) (E' t) = _; rw [hs t (by omega), kn t (by omega)]; rfl) (hp.mono (by omega))
    · obtain ⟨S, hS⟩ := min_late (hp.mono (show s ≤ s + s' by omega)) (kp.mono (show s' ≤ s + s' by omega)) (show 1 ≤ 24 by omega)
      exact day_some (s := s + s' + S) (F := minF (encF E) (encF E')) (fun t ht => by
        show omin (E t) (E' t) = some (Min.min (encF E t) (encF E' t))
        have e1 := hs t (by omega)
        have e2 := ks t (by omega)
        rw [e1, e2]; rfl) (hS.mono (by omega))

theorem Day.max {E E' : Nat → Option Int} (h : Day E) (k : Day E') : Day (fun t => omax (E t) (E' t)) := by
  obtain ⟨s, c, hp, hn | hs⟩ := h
  · exact day_none (s := s) fun t ht => by show omax (E t) (E' t) = none; rw [hn t (by omega), omax_none_l]
  · obtain ⟨s', c', kp, kn | ks⟩ := k
    · exact day_none (s := s') fun t ht => by show omax (E t) (E' t) = none; rw [kn t (by omega), omax_none_r]
    · obtain ⟨S, hS⟩ := max_late (hp.mono (show s ≤ s + s' by omega)) (kp.mono (show s' ≤ s + s' by omega)) (show 1 ≤ 24 by omega)
      exact day_some (s := s + s' + S) (F := maxF (encF E) (encF E')) (fun t ht => by
        show omax (E t) (E' t) = some (Max.max (encF E t) (encF E' t))
        have e1 := hs t (by omega)
        have e2 := ks t (by omega)
        rw [e1, e2]; rfl) (hS.mono (by omega))

theorem Day.sum {E E' : Nat → Option Int} (h : Day E) (k : Day E') : Day (fun t => oadd (E t) (E' t)) := by
  obtain ⟨s, c, hp, hn | hs⟩ := h
  · exact day_none (s := s) fun t ht => by show oadd (E t) (E' t) = none; rw [hn t ht, oadd_none_l]
  · obtain ⟨s', c', kp, kn | ks⟩ := k
    · exact day_none (s := s') fun t ht => by show oadd (E t) (E' t) = none; rw [kn t ht, oadd_none_r]
    · refine day_some (s := s + s') (F := fun t => encF E t + encF E' t) (c := c + c') (fun t ht => ?_) (fun t ht => ?_)
      · show oadd (E t) (E' t) = _
        have e1 := hs t (by omega)
        have e2 := ks t (by omega)
        rw [e1, e2]; rfl
      · have := hp t (by omega)
        have := kp t (by omega)
        show encF E (t + 24) + encF E' (t + 24) = encF E t + encF E' t + (c + c')
        omega

/-- The periods of the normal forms of two such curves have a multiple of at most 24. -/
theorem day_lcm {z1 z2 : List Int} {p1 p2 : Nat} {i1 i2 : Int} (g1 : Good z1 p1 i1) (g2 : Good z2 p2 i2) (h1 : Day (eC z1 p1 i1)) (h2 : Day (eC z2 p2 i2)) {y1 y2 : List Int} {q1 q2 : Nat} {j1 j2 : Int} (n1 : NormC z1 p1 i1 y1 q1 j1) (n2 : NormC z2 p2 i2 y2 q2 j2) : q1 / Nat.gcd q1 q2 * q2 ≤ 24 := by
  obtain ⟨s1, c1, k1⟩ := h1.per
  obtain ⟨s2, c2, k2⟩ := h2.per
  have a := n1.div24 g1 k1
  have b := n2.div24 g2 k2
  have := lcm24 a b
  exact Nat.le_of_dvd (by omega) (Nat.dvd_of_mod_eq_zero this)

/-! ## What a reduction needs -/

/-- Constant from tick 16 on, or at least 20 from tick 250 on. -/
def Low (E : Nat → Option Int) : Prop := Per (encF E) 16 24 0 ∨ ∀ t x, 250 ≤ t → E t = some x → 20 ≤ x

theorem Low.sum {K K' : Int} {E E' : Nat → Option Int} (h : Low E) (k : Low E') (n : Nice K E) (m : Nice K' E') (h0 : ∀ t x, E t = some x → 0 ≤ x) (k0 : ∀ t x, E' t = some x → 0 ≤ x) : Low (fun t => oadd (E t) (E' t)) := by
  rcases h with h | h
  · rcases k with k | k
    · rcases n.tail with nn | ⟨ns, _⟩
      · exact .inl (per_none fun t ht => by show oadd (E t) (E' t) = none; rw [nn t ht, oadd_none_l])
      rcases m.tail with mn | ⟨ms, _⟩
      · exact .inl (per_none fun t ht => by show oadd (E t) (E' t) = none; rw [mn t ht, oadd_none_r])
      have e : ∀ t, oadd (E t) (E' t) = some (encF E t + encF E' t) := fun t => by rw [ns t, ms t]; rfl
      have e2 : encF (fun t => oadd (E t) (E' t)) = fun t => encF E t + encF E' t := funext fun t => encF_some (e t)
      refine .inl fun t ht => ?_
      rw [e2]
      have := h t ht
      have := k t ht
      show encF E (t + 24) + encF E' (t + 24) = encF E t + encF E' t + 0
      omega
    · refine .inr fun t x ht hx => ?_
      obtain ⟨y, z, h1, h2, rfl⟩ := both_some hx
      have := h0 t y h1
      have := k t z ht h2
      omega
  · refine .inr fun t x ht hx => ?_
    obtain ⟨y, z, h1, h2, rfl⟩ := both_some hx
    have := k0 t z h2
    have := h t y ht h1
    omega

theorem Low.form {E : Nat → Option Int} (h : Low E) {zs : List Int} {p : Nat} {inc : Int} (f : EForm zs p inc E) (hf : ¬ InfC zs) : inc = 0 ∨ ∀ t, 250 ≤ t → 20 ≤ atC zs p inc t := by
  rcases h with h | h
  · obtain ⟨_, _, s, _, hn⟩ := f.form
    obtain ⟨h1, h2⟩ := hn.divides h
    have hp := hn.pos
    have h3 : p ≤ 24 := hn.per_le h (by omega)
    have h4 : 1 ≤ 24 / p := (Nat.one_le_div_iff (by omega)).2 h3
    rcases Int.mul_eq_zero.1 h2.symm with h5 | h5
    · omega
    · exact .inl h5
  · refine .inr fun t ht => h t _ ht ?_
    rw [← f.2.1 t, eC_fin hf]

/-! ## Greater curves have greater results -/

end Go.Proofs.Ytcpfphlijeajiaa

namespace Go.Proofs.Ytcpfphlijeajiaa

/-! ## Sums, minima and maxima distribute -/

theorem oadd_comm (a b : Option Int) : oadd a b = oadd b a := by
  cases a <;> cases b <;> try rfl
  rename_i x y
  show some (x + y) = some (y + x)
  congr 1; omega
theorem oadd_assoc (a b c : Option Int) : oadd (oadd a b) c = oadd a (oadd b c) := by
  cases a <;> cases b <;> cases c <;> try rfl
  rename_i x y z
  show some (x + y + z) = some (x + (y + z))
  congr 1; omega

end Go.Proofs.Ytcpfphlijeajiaa
