/- The operations on values, and when what they make is periodic. Nothing here speaks of the program. By the verifier's side. -/
import Derived.Test.YthljhddnfflpjaaCOrdMPwM
namespace Go.Proofs.Ythljhddnfflpjaa

def plI (a b : Int) : Int := if a = infV ∨ b = infV then infV else a + b

theorem plI_fin {a b : Int} (ha : ¬ a = infV) (hb : ¬ b = infV) : plI a b = a + b := by unfold plI; rw [if_neg (fun h => h.elim ha hb)]
theorem plI_l (b : Int) : plI infV b = infV := by unfold plI; rw [if_pos (.inl rfl)]
theorem plI_r (a : Int) : plI a infV = infV := by unfold plI; rw [if_pos (.inr rfl)]

/-- How much a curve grows in L ticks in the long run. -/
noncomputable def growI (zs : List Int) (p : Nat) (inc : Int) (L : Nat) : Int :=
  open Classical in if InfC zs then infV else ((L / p : Nat) : Int) * inc
theorem growI_inf {zs : List Int} (h : InfC zs) (p : Nat) (inc : Int) (L : Nat) : growI zs p inc L = infV := by unfold growI; rw [if_pos h]
theorem growI_fin {zs : List Int} (h : ¬ InfC zs) (p : Nat) (inc : Int) (L : Nat) : growI zs p inc L = ((L / p : Nat) : Int) * inc := by unfold growI; rw [if_neg h]

/-- A number that is infinite or small. -/
def Mid (x : Int) : Prop := x = infV ∨ (0 ≤ x ∧ x ≤ 1125899906842624)

def chk (F : Nat → Int) (L : Nat) (G : Int) : Prop := ∀ t, 400 ≤ t → t < 400 + L → F (t + L) = plI (F t) G
/-- The test of one period tells whether there is a curve. -/
def Settling (F : Nat → Int) (L : Nat) (G : Int) : Prop := (chk F L G → ∃ c, Per F 400 L c) ∧ (¬ chk F L G → ¬ CanBe F)
/-- The test of one period from the tick s on. -/
def chkS (F : Nat → Int) (s L : Nat) (G : Int) : Prop := ∀ t, s ≤ t → t < s + L → F (t + L) = plI (F t) G
def SettlingS (F : Nat → Int) (s L : Nat) (G : Int) : Prop := (chkS F s L G → ∃ c, Per F s L c) ∧ (¬ chkS F s L G → ¬ CanBe F)
theorem settling_of {F : Nat → Int} {L : Nat} {G c : Int} (hp : Per F 400 L c) (hc : chk F L G) : Settling F L G := ⟨fun _ => ⟨c, hp⟩, fun h => absurd hc h⟩

theorem settling_inf {F : Nat → Int} {L : Nat} (h : ∀ t, 400 ≤ t → F t = infV) : Settling F L infV :=
  settling_of (c := 0) (fun t ht => by rw [h t ht, h (t + L) (by omega)]; omega) (fun t h1 _ => by rw [h t h1, h (t + L) (by omega), plI_l])

section
variable {zs ys : List Int} {p q : Nat} {inc jnc : Int}

theorem Good.perL (g : Good zs p inc) (hf : ¬ InfC zs) {L : Nat} (hL : L / p * p = L) : Per (atC zs p inc) 400 L (((L / p : Nat) : Int) * inc) := by
  have h := (g.per hf).mul (L / p)
  rw [hL] at h
  have := g.few
  exact h.mono (by omega)

theorem grow_mid (g : Good zs p inc) {L : Nat} (hL : L ≤ 120) : Mid (growI zs p inc L) := by
  by_cases hi : InfC zs
  · rw [growI_inf hi]; exact .inl rfl
  · rw [growI_fin hi]
    have h0 := g.i0; have h1 := g.i1
    have h2 : L / p ≤ 120 := Nat.le_trans (Nat.div_le_self _ _) hL
    refine .inr ⟨Int.mul_nonneg (Int.natCast_nonneg _) h0, ?_⟩
    have : ((L / p : Nat) : Int) * inc ≤ 120 * 1073741824 := Int.mul_le_mul (by omega) h1 h0 (by omega)
    omega

theorem at_mid (g : Good zs p inc) {t : Nat} (ht : t ≤ 1000) : Mid (atC zs p inc t) := by
  rcases g.seen (t := t) (by omega) with h | ⟨_, h2, h3⟩
  · exact .inl h.2
  · exact .inr ⟨h2, by omega⟩

/-- The value of a curve at a tick that is not late, and the value with infinity. -/
theorem eC_cases (g : Good zs p inc) {t : Nat} (_ht : t ≤ 1048576) : (eC zs p inc t = none ∧ atC zs p inc t = infV) ∨ (∃ x, eC zs p inc t = some x ∧ atC zs p inc t = x ∧ 0 ≤ x ∧ x ≤ 1073741824 * ((t : Int) + 1)) := by
  cases h : eC zs p inc t with
  | none => exact .inl ⟨rfl, (eC_none.1 h).2⟩
  | some x => have := eC_bd g h; exact .inr ⟨x, rfl, this.2.2, this.1, this.2.1⟩

theorem eC_400 (g : Good zs p inc) (hi : InfC zs) {t : Nat} (ht : 399 ≤ t) : eC zs p inc t = none := eC_late g hi (by have := g.few; omega)

/-! ### Sum -/

theorem grow_low (g : Good zs p inc) {L : Nat} (hL : L ≤ 120) : growI zs p inc L = infV ∨ (0 ≤ growI zs p inc L ∧ growI zs p inc L ≤ 1099511627776) := by
  by_cases hi : InfC zs
  · exact .inl (growI_inf hi p inc L)
  · rw [growI_fin hi]
    have h0 := g.i0; have h1 := g.i1
    have h2 : L / p ≤ 120 := Nat.le_trans (Nat.div_le_self _ _) hL
    refine .inr ⟨Int.mul_nonneg (Int.natCast_nonneg _) h0, ?_⟩
    have : ((L / p : Nat) : Int) * inc ≤ 120 * 1073741824 := Int.mul_le_mul (by omega) h1 h0 (by omega)
    omega

/-- Of a finite curve the growth and the early values are small. -/
theorem fin_low (g : Good zs p inc) (hf : ¬ InfC zs) {L : Nat} (hL : L ≤ 120) : (0 ≤ ((L / p : Nat) : Int) * inc ∧ ((L / p : Nat) : Int) * inc ≤ 1099511627776) ∧ ∀ t, t ≤ 1000 → 0 ≤ atC zs p inc t ∧ atC zs p inc t ≤ 1099511627776 := by
  refine ⟨?_, fun t ht => ?_⟩
  · have := grow_low g hL
    rw [growI_fin hf] at this
    rcases this with h | h
    · exfalso
      have h0 := g.i0; have h1 := g.i1
      have h2 : L / p ≤ 120 := Nat.le_trans (Nat.div_le_self _ _) hL
      have : ((L / p : Nat) : Int) * inc ≤ 120 * 1073741824 := Int.mul_le_mul (by omega) h1 h0 (by omega)
      unfold infV at h; omega
    · exact h
  · have := g.bd hf t
    omega

/-- In a sum or maximum with an infinite curve the ticks with a finite value are early. -/
theorem early (g : Good zs p inc) (hi : InfC zs) {t : Nat} {y : Int} (h : eC zs p inc t = some y) : t ≤ 399 := by
  refine Nat.le_of_not_lt fun hlt => ?_
  rw [eC_400 g hi (by omega)] at h; cases h

/-! ### One curve -/

def omap (f : Int → Int) : Option Int → Option Int
  | none => none
  | some x => some (f x)

noncomputable def eLater (d : Nat) (zs : List Int) (p : Nat) (inc : Int) (t : Nat) : Option Int := if t < d then some 0 else eC zs p inc (t - d)
noncomputable def eLower (c : Int) (zs : List Int) (p : Nat) (inc : Int) (t : Nat) : Option Int := omap (fun x => max (x - c) 0) (eC zs p inc t)
/-- What is asked of a function that is periodic from a start on. -/
structure FromOk (E : Nat → Option Int) (s P : Nat) : Prop where
  mid : ∀ t, t < s + 2 * P → 0 ≤ encF E t ∧ encF E t ≤ infV
  per : ∃ c, Per (encF E) s P c
  tame : Tame E

theorem later_val (_g : Good zs p inc) {d t : Nat} : enc (eLater d zs p inc t) = if t < d then 0 else atC zs p inc (t - d) := by
  unfold eLater
  by_cases h : t < d
  · rw [if_pos h, if_pos h]; rfl
  · rw [if_neg h, if_neg h, enc_eC]

theorem later_from (g : Good zs p inc) {d : Nat} (hd : d ≤ 401) : FromOk (eLater d zs p inc) (zs.length - p + d) p := by
  have hn := g.few; have h1 := g.p1; have h2 := g.p2; have h3 := g.p3
  refine ⟨fun t ht => ?_, ⟨inc, fun t ht => ?_⟩, fun t h => ?_, ?_⟩
  · unfold encF; rw [later_val g]
    split
    · unfold infV; omega
    · exact at_bd g (by omega)
  · unfold encF; rw [later_val g, later_val g, if_neg (by omega), if_neg (by omega), show t + p - d = t - d + p by omega]
    exact g.perAny _ (by omega)
  · unfold eLater at *
    by_cases hlt : t < d
    · rw [if_pos hlt] at h; cases h
    · rw [if_neg hlt] at h; rw [if_neg (by omega), show t + 1 - d = t - d + 1 by omega]; exact eC_up g h
  · by_cases hi : InfC zs
    · refine .inr fun t x h => ?_
      unfold eLater at h
      by_cases hlt : t < d
      · rw [if_pos hlt] at h; cases h; unfold infV; omega
      · rw [if_neg hlt] at h
        rcases eC_inf g hi (t - d) with h4 | ⟨y, h4, _, h6, h7⟩
        · rw [h4] at h; cases h
        · rw [h4] at h; cases h; unfold infV; omega
    · refine .inl ⟨1000, by omega, atC zs p inc (1000 - d), ?_, ?_⟩
      · unfold eLater; rw [if_neg (by omega), eC_fin hi]
      · have := g.bd hi (1000 - d); unfold infV; omega

theorem lower_val (g : Good zs p inc) {c : Int} {t : Nat} (ht : t ≤ 1048576) : enc (eLower c zs p inc t) = if atC zs p inc t = infV then infV else max (atC zs p inc t - c) 0 := by
  unfold eLower
  rcases eC_cases g ht with ⟨h1, h2⟩ | ⟨x, h1, h2, h3, h4⟩
  · rw [h1, h2, if_pos rfl]; rfl
  · rw [h1, h2, if_neg (by unfold infV; omega)]; rfl

theorem lower_settle (g : Good zs p inc) {c : Int} (hc0 : 0 ≤ c) (hc : c ≤ 1073741824) : Settling (encF (eLower c zs p inc)) p (growI zs p inc p) ∧ Tame (eLower c zs p inc) ∧ ∀ t, t ≤ 1000 → Mid (encF (eLower c zs p inc) t) := by
  have h1 := g.p1; have h2 := g.p2
  have hup : ∀ t, eLower c zs p inc t = none → eLower c zs p inc (t + 1) = none := fun t h => by
    unfold eLower at *
    cases h4 : eC zs p inc t with
    | none => rw [eC_up g h4]; rfl
    | some x => rw [h4] at h; cases h
  refine ⟨?_, ⟨hup, ?_⟩, fun t ht => ?_⟩
  · by_cases hi : InfC zs
    · rw [growI_inf hi]
      exact settling_inf fun t ht => by unfold encF eLower; rw [eC_400 g hi (by omega)]; rfl
    have hv : encF (eLower c zs p inc) = maxF (fun t => atC zs p inc t - c) (fun _ => 0) := funext fun t => by unfold encF eLower; rw [eC_fin hi]; rfl
    have hself : p / p * p = p := by rw [Nat.div_self (by omega), Nat.one_mul]
    have ha0 := g.perL hi hself
    obtain ⟨g1, g2⟩ := fin_low g hi h2
    rw [growI_fin hi, hv]
    generalize ((p / p : Nat) : Int) * inc = ca at *
    have ha : Per (fun t => atC zs p inc t - c) 400 p ca := fun t ht => by
      have := ha0 t ht
      show atC zs p inc (t + p) - c = atC zs p inc t - c + ca
      omega
    have hb : Per (fun _ => (0 : Int)) 400 p 0 := fun t ht => by show (0 : Int) = 0 + 0; omega
    have hca : max ca 0 = ca := by omega
    have hch : ∀ t, 400 ≤ t → t < 400 + p → plI (maxF (fun t => atC zs p inc t - c) (fun _ => 0) t) ca = maxF (fun t => atC zs p inc t - c) (fun _ => 0) t + max ca 0 := fun t h1 h2 => by
      have a1 := g2 t (by omega)
      rw [hca]
      exact plI_fin (by show ¬ max (atC zs p inc t - c) 0 = infV; unfold infV; omega) (by unfold infV; omega)
    refine ⟨fun hc => ⟨_, max_found ha hb h1 fun t h3 h4 => by rw [hc t h3 h4, hch t h3 h4]⟩, fun hc hcan => hc fun t h3 h4 => ?_⟩
    obtain ⟨S', hS⟩ := max_late ha hb h1
    rw [hch t h3 h4]
    exact hcan.late hS t h3
  · by_cases hi : InfC zs
    · refine .inr fun t x h => ?_
      unfold eLower at h
      rcases eC_inf g hi t with h4 | ⟨y, h4, _, h6, h7⟩
      · rw [h4] at h; cases h
      · rw [h4] at h; cases h; show ¬ max (y - c) 0 = infV; unfold infV; omega
    · refine .inl ⟨400, by omega, max (atC zs p inc 400 - c) 0, ?_, ?_⟩
      · unfold eLower; rw [eC_fin hi]; rfl
      · have := g.bd hi 400; unfold infV; omega
  · unfold encF; rw [lower_val g (by omega)]
    have := at_mid g ht
    split
    · exact .inl rfl
    · rename_i hne
      unfold Mid infV at *; omega

end

end Go.Proofs.Ythljhddnfflpjaa

namespace Go.Proofs.Ythljhddnfflpjaa
set_option linter.unusedVariables false

/-! ## The greatest so far -/

section
variable {D D' : Nat → Option Int}
end

section
variable {d : Nat → Int} {S L : Nat} {δ : Int}
end

/-! ## The least from a tick on -/

section
variable {D D' : Nat → Option Int}
end

/-! ## The differences of two curves -/

section
variable {zs ys : List Int} {p q : Nat} {inc jnc : Int}
/-! ### The greatest so far -/

/-! ### The least from a tick on -/

end

end Go.Proofs.Ythljhddnfflpjaa

namespace Go.Proofs.Ythljhddnfflpjaa

section
variable {zs ys : List Int} {p q : Nat} {inc jnc : Int}

end

end Go.Proofs.Ythljhddnfflpjaa

namespace Go.Proofs.Ythljhddnfflpjaa

section
variable {zs ys : List Int} {p q : Nat} {inc jnc : Int}

/-! ## Sums -/

/-! ## The lesser and the greater of two -/

/-- Where a curve is below one that grows less, the lesser and the greater one of them are no curves. -/
theorem over {a b : Nat → Int} {L : Nat} {ca cb : Int} (ha : Per a 400 L ca) (hb : Per b 400 L cb) (hL : 1 ≤ L) {u : Nat} (hu : 400 ≤ u) (hne : a u < b u) (hlt : cb < ca) : ¬ CanBe (minF a b) ∧ ¬ CanBe (maxF a b) := by
  have hd : Per (fun t => b t - a t) 400 L (cb - ca) := fun t ht => by have := ha t ht; have := hb t ht; show b (t + L) - a (t + L) = b t - a t + (cb - ca); omega
  obtain ⟨S, _, hf⟩ := falls hd hL (by omega)
  have hS : S ≤ S * L := Nat.le_mul_of_pos_right _ hL
  have e1 := ha.mul S u hu
  have e2 := hb.mul S u hu
  have e3 : b (u + S * L) - a (u + S * L) ≤ 0 := hf (u + S * L) (by omega)
  constructor
  · intro hc
    obtain ⟨S', hm⟩ := min_late ha hb hL
    have h := (hc.late hm).mul S u hu
    rw [show min ca cb = cb by omega] at h
    unfold minF at h
    omega
  · intro hc
    obtain ⟨S', hm⟩ := max_late ha hb hL
    have h := (hc.late hm).mul S u hu
    rw [show max ca cb = ca by omega] at h
    unfold maxF at h
    omega

/-! ## One curve -/

end

end Go.Proofs.Ythljhddnfflpjaa

namespace Go.Proofs.Ythljhddnfflpjaa
set_option linter.unusedSimpArgs false
set_option linter.unusedVariables false

/-- A curve that is 0 at first, without its first tick. -/
theorem can_tail {E : Nat → Option Int} (h : ECan E) (h0 : E 0 = some 0) : ECan (fun t => E (t + 1)) := by
  obtain ⟨zs, p, inc, g, he⟩ := h
  have g1 := g.p1; have g2 := g.p2; have g3 := g.p3; have gf := g.few; have gi := g.i1; have gi0 := g.i0
  by_cases hi : InfC zs
  · obtain ⟨i, hz, hj⟩ := least_ex (P := fun t => eC zs p inc t = none) ⟨zs.length - 1, eC_late g hi (Nat.le_refl _)⟩
    have hil : i ≤ zs.length - 1 := Nat.le_of_not_lt fun hlt => hj _ hlt (eC_late g hi (Nat.le_refl _))
    have hi0 : i ≠ 0 := fun h => by rw [h, he, h0] at hz; cases hz
    have hv : ∀ t, t < i → eC zs p inc t = some (atC zs p inc t) := fun t ht => by
      rcases eC_inf g hi t with h2 | ⟨x, h2, h3, _⟩
      · exact absurd h2 (hj t ht)
      · rw [h2, h3]
    refine can_inf (F := fun t => atC zs p inc (t + 1)) (i := i - 1) (by omega) (fun t ht => ?_) (fun t ht => ?_) (fun t ht => ?_) (fun t ht => g.step _)
    · show E (t + 1) = _
      rw [← he, hv _ (by omega)]
    · show E (t + 1) = none
      rw [← he]
      have := stays (E := eC zs p inc) (fun t h => eC_up g h) hz (t + 1 - i)
      rwa [show i + (t + 1 - i) = t + 1 by omega] at this
    · rcases eC_inf g hi (t + 1) with h2 | ⟨x, h2, h3, h4, h5⟩
      · exact absurd h2 (hj _ (by omega))
      · show 0 ≤ atC zs p inc (t + 1) ∧ atC zs p inc (t + 1) ≤ 1073741824
        rw [h3]; exact ⟨h4, h5⟩
  · have hp := g.per hi
    have hE : ∀ t, E t = some (atC zs p inc t) := fun t => by rw [← he, eC_fin hi]
    have ha0 : atC zs p inc 0 = 0 := by have := hE 0; rw [h0] at this; injection this with this; exact this.symm
    refine can_fin (F := fun t => atC zs p inc (t + 1)) (s := zs.length - p - 1) (p := p) (c := inc) (fun t => hE (t + 1)) (fun t ht => ?_) g1 g2 (by omega) (g.bd hi 1).1 (fun t ht => g.step _) ?_ gi
    · show atC zs p inc (t + p + 1) = atC zs p inc (t + 1) + inc
      rw [show t + p + 1 = t + 1 + p by omega]
      exact hp (t + 1) (by omega)
    · show atC zs p inc (zs.length - p - 1 + p - 1 + 1) ≤ 1073741824
      by_cases hl : zs.length = p
      · rw [show zs.length - p - 1 + p - 1 + 1 = 0 + p by omega, hp 0 (by omega), ha0]
        omega
      · rw [show zs.length - p - 1 + p - 1 + 1 = zs.length - 1 by omega, atC_lt (by omega)]
        exact (g.small hi (by omega)).2

/-- The hop curve, for packets of at most c + 1 bytes. -/
noncomputable def eHop (c : Int) (zs : List Int) (p : Nat) (inc : Int) (t : Nat) : Option Int := if t = 0 then some 0 else eLower c zs p inc (t - 1)
section
variable {zs : List Int} {p : Nat} {inc c : Int}
theorem eHop_succ (t : Nat) : eHop c zs p inc (t + 1) = eLower c zs p inc t := by unfold eHop; rw [if_neg (by omega)]; rfl
theorem hop_can (h : ECan (eHop c zs p inc)) : ECan (eLower c zs p inc) := by
  have := can_tail h rfl
  rwa [show (fun t => eHop c zs p inc (t + 1)) = eLower c zs p inc from funext fun t => eHop_succ t] at this
/-- One tick later than whatever curve has the lowered values. -/
theorem hop_later {ys : List Int} {q : Nat} {j : Int} (he : ∀ t, eC ys q j t = eLower c zs p inc t) : eLater 1 ys q j = eHop c zs p inc := funext fun t => by
  unfold eLater eHop
  by_cases h : t = 0
  · rw [if_pos (by omega), if_pos h]
  · rw [if_neg (by omega), if_neg h, he]
end
end Go.Proofs.Ythljhddnfflpjaa
