/- The operations on values, and when what they make is periodic. Nothing here speaks of the program. By the verifier's side. -/
import Derived.Test.YtcpfphlijeajiaaGcPwM
namespace Go.Proofs.Ytcpfphlijeajiaa

def oadd : Option Int → Option Int → Option Int
  | some x, some y => some (x + y)
  | _, _ => none
def omin : Option Int → Option Int → Option Int
  | none, y => y
  | some x, none => some x
  | some x, some y => some (min x y)
def omax : Option Int → Option Int → Option Int
  | some x, some y => some (max x y)
  | _, _ => none
def plI (a b : Int) : Int := if a = infV ∨ b = infV then infV else a + b

theorem plI_fin {a b : Int} (ha : ¬ a = infV) (hb : ¬ b = infV) : plI a b = a + b := by unfold plI; rw [if_neg (fun h => h.elim ha hb)]
theorem plI_l (b : Int) : plI infV b = infV := by unfold plI; rw [if_pos (.inl rfl)]
theorem plI_r (a : Int) : plI a infV = infV := by unfold plI; rw [if_pos (.inr rfl)]

theorem oadd_none_l (y : Option Int) : oadd none y = none := by cases y <;> rfl
theorem oadd_none_r (x : Option Int) : oadd x none = none := by cases x <;> rfl
theorem omax_none_l (y : Option Int) : omax none y = none := by cases y <;> rfl
theorem omax_none_r (x : Option Int) : omax x none = none := by cases x <;> rfl
/-- How much a curve grows in L ticks in the long run. -/
noncomputable def growI (zs : List Int) (p : Nat) (inc : Int) (L : Nat) : Int :=
  open Classical in if InfC zs then infV else ((L / p : Nat) : Int) * inc
theorem growI_inf {zs : List Int} (h : InfC zs) (p : Nat) (inc : Int) (L : Nat) : growI zs p inc L = infV := by unfold growI; rw [if_pos h]
theorem growI_fin {zs : List Int} (h : ¬ InfC zs) (p : Nat) (inc : Int) (L : Nat) : growI zs p inc L = ((L / p : Nat) : Int) * inc := by unfold growI; rw [if_neg h]

/-- A number that is infinite or small. -/
def Mid (x : Int) : Prop := x = infV ∨ (0 ≤ x ∧ x ≤ 1125899906842624)

def chk (F : Nat → Int) (L : Nat) (G : Int) : Prop := ∀ t, 400 ≤ t → t < 400 + L → F (t + L) = plI (F t) G
/-- The test of one period tells whether there is a curve. -/
def Settling (F : Nat → Int) (L : Nat) (G : Int) : Prop := (chk F L G → ∃ c, Per F 400 L c) ∧ (¬ chk F L G → ¬ CanBe F)
theorem settling_of {F : Nat → Int} {L : Nat} {G c : Int} (hp : Per F 400 L c) (hc : chk F L G) : Settling F L G := ⟨fun _ => ⟨c, hp⟩, fun h => absurd hc h⟩

theorem settling_inf {F : Nat → Int} {L : Nat} (h : ∀ t, 400 ≤ t → F t = infV) : Settling F L infV :=
  settling_of (c := 0) (fun t ht => by rw [h t ht, h (t + L) (by omega)]; omega) (fun t h1 _ => by rw [h t h1, h (t + L) (by omega), plI_l])

section
variable {zs ys : List Int} {p q : Nat} {inc jnc : Int}

theorem Good.perL (g : Good zs p inc) (hf : ¬ InfC zs) {L : Nat} (hL : L / p * p = L) : Per (atC zs p inc) 400 L (((L / p : Nat) : Int) * inc) := by
  have h := (g.per hf).mul (L / p)
  rw [hL] at h
  have := g.few
  exact h.mono (by omega)

theorem grow_mid (g : Good zs p inc) {L : Nat} (hL : L ≤ 120) : Mid (growI zs p inc L) := by
  by_cases hi : InfC zs
  · rw [growI_inf hi]; exact .inl rfl
  · rw [growI_fin hi]
    have h0 := g.i0; have h1 := g.i1
    have h2 : L / p ≤ 120 := Nat.le_trans (Nat.div_le_self _ _) hL
    refine .inr ⟨Int.mul_nonneg (Int.natCast_nonneg _) h0, ?_⟩
    have : ((L / p : Nat) : Int) * inc ≤ 120 * 1073741824 := Int.mul_le_mul (by omega) h1 h0 (by omega)
    omega

theorem at_mid (g : Good zs p inc) {t : Nat} (ht : t ≤ 1000) : Mid (atC zs p inc t) := by
  rcases g.seen (t := t) (by omega) with h | ⟨_, h2, h3⟩
  · exact .inl h.2
  · exact .inr ⟨h2, by omega⟩

/-- The value of a curve at a tick that is not late, and the value with infinity. -/
theorem eC_cases (g : Good zs p inc) {t : Nat} (_ht : t ≤ 1048576) : (eC zs p inc t = none ∧ atC zs p inc t = infV) ∨ (∃ x, eC zs p inc t = some x ∧ atC zs p inc t = x ∧ 0 ≤ x ∧ x ≤ 1073741824 * ((t : Int) + 1)) := by
  cases h : eC zs p inc t with
  | none => exact .inl ⟨rfl, (eC_none.1 h).2⟩
  | some x => have := eC_bd g h; exact .inr ⟨x, rfl, this.2.2, this.1, this.2.1⟩

theorem eC_400 (g : Good zs p inc) (hi : InfC zs) {t : Nat} (ht : 399 ≤ t) : eC zs p inc t = none := eC_late g hi (by have := g.few; omega)

/-! ### Sum -/

noncomputable def eMin (zs : List Int) (p : Nat) (inc : Int) (ys : List Int) (q : Nat) (jnc : Int) (t : Nat) : Option Int := omin (eC zs p inc t) (eC ys q jnc t)
noncomputable def eMax (zs : List Int) (p : Nat) (inc : Int) (ys : List Int) (q : Nat) (jnc : Int) (t : Nat) : Option Int := omax (eC zs p inc t) (eC ys q jnc t)

/-- What is asked of a choice between two curves. -/
structure PairOk (ch : Int → Int → Int) (E : Nat → Option Int) (zs : List Int) (p : Nat) (inc : Int) (ys : List Int) (q : Nat) (jnc : Int) : Prop where
  val : ∀ t, t ≤ 1000 → encF E t = ch (atC zs p inc t) (atC ys q jnc t)
  mid : ∀ t, t ≤ 1000 → Mid (encF E t)
  gmid : ∀ L, L ≤ 120 → Mid (ch (growI zs p inc L) (growI ys q jnc L))
  settle : ∀ L, 1 ≤ L → L ≤ 120 → L / p * p = L → L / q * q = L → Settling (encF E) L (ch (growI zs p inc L) (growI ys q jnc L))
  tame : Tame E

theorem grow_low (g : Good zs p inc) {L : Nat} (hL : L ≤ 120) : growI zs p inc L = infV ∨ (0 ≤ growI zs p inc L ∧ growI zs p inc L ≤ 1099511627776) := by
  by_cases hi : InfC zs
  · exact .inl (growI_inf hi p inc L)
  · rw [growI_fin hi]
    have h0 := g.i0; have h1 := g.i1
    have h2 : L / p ≤ 120 := Nat.le_trans (Nat.div_le_self _ _) hL
    refine .inr ⟨Int.mul_nonneg (Int.natCast_nonneg _) h0, ?_⟩
    have : ((L / p : Nat) : Int) * inc ≤ 120 * 1073741824 := Int.mul_le_mul (by omega) h1 h0 (by omega)
    omega

/-- Of a finite curve the growth and the early values are small. -/
theorem fin_low (g : Good zs p inc) (hf : ¬ InfC zs) {L : Nat} (hL : L ≤ 120) : (0 ≤ ((L / p : Nat) : Int) * inc ∧ ((L / p : Nat) : Int) * inc ≤ 1099511627776) ∧ ∀ t, t ≤ 1000 → 0 ≤ atC zs p inc t ∧ atC zs p inc t ≤ 1099511627776 := by
  refine ⟨?_, fun t ht => ?_⟩
  · have := grow_low g hL
    rw [growI_fin hf] at this
    rcases this with h | h
    · exfalso
      have h0 := g.i0; have h1 := g.i1
      have h2 : L / p ≤ 120 := Nat.le_trans (Nat.div_le_self _ _) hL
      have : ((L / p : Nat) : Int) * inc ≤ 120 * 1073741824 := Int.mul_le_mul (by omega) h1 h0 (by omega)
      unfold infV at h; omega
    · exact h
  · have := g.bd hf t
    omega

theorem max_val (g : Good zs p inc) (k : Good ys q jnc) {t : Nat} (ht : t ≤ 1048576) : enc (eMax zs p inc ys q jnc t) = max (atC zs p inc t) (atC ys q jnc t) := by
  unfold eMax
  rcases eC_cases g ht with ⟨h1, h2⟩ | ⟨x, h1, h2, h3, h4⟩
  · rcases eC_cases k ht with ⟨k1, k2⟩ | ⟨y, k1, k2, k3, k4⟩
    · rw [h1, k1, h2, k2]; show infV = _; omega
    · rw [h1, k1, h2, k2]; show infV = _; unfold infV; omega
  · rcases eC_cases k ht with ⟨k1, k2⟩ | ⟨y, k1, k2, k3, k4⟩
    · rw [h1, k1, h2, k2]; show infV = _; unfold infV; omega
    · rw [h1, k1, h2, k2]; rfl

theorem tame_400 {E : Nat → Option Int} (hu : ∀ t, E t = none → E (t + 1) = none) {y : Int} (h : E 400 = some y) (hy : y ≤ 1125899906842624) : Tame E :=
  ⟨hu, .inl ⟨400, Nat.le_refl _, y, h, by unfold infV; omega⟩⟩

theorem max_up (g : Good zs p inc) (k : Good ys q jnc) (t : Nat) (h : eMax zs p inc ys q jnc t = none) : eMax zs p inc ys q jnc (t + 1) = none := by
  unfold eMax at *
  cases h1 : eC zs p inc t with
  | none => rw [eC_up g h1, omax_none_l]
  | some x =>
    cases h2 : eC ys q jnc t with
    | none => rw [eC_up k h2, omax_none_r]
    | some y => rw [h1, h2] at h; cases h

/-- Of an infinite sum or maximum the finite values are small. -/
theorem both_some {a b : Option Int} {x : Int} (h : oadd a b = some x) : ∃ y z, a = some y ∧ b = some z ∧ x = y + z := by
  cases a with
  | none => rw [oadd_none_l] at h; cases h
  | some y =>
    cases b with
    | none => cases h
    | some z => exact ⟨y, z, rfl, rfl, by cases h; rfl⟩
theorem both_some_max {a b : Option Int} {x : Int} (h : omax a b = some x) : ∃ y z, a = some y ∧ b = some z ∧ x = max y z := by
  cases a with
  | none => rw [omax_none_l] at h; cases h
  | some y =>
    cases b with
    | none => cases h
    | some z => exact ⟨y, z, rfl, rfl, by cases h; rfl⟩

/-- In a sum or maximum with an infinite curve the ticks with a finite value are early. -/
theorem early (g : Good zs p inc) (hi : InfC zs) {t : Nat} {y : Int} (h : eC zs p inc t = some y) : t ≤ 399 := by
  refine Nat.le_of_not_lt fun hlt => ?_
  rw [eC_400 g hi (by omega)] at h; cases h

theorem max_mid {x y : Int} (hx : Mid x) (hy : Mid y) : Mid (max x y) := by
  unfold Mid infV at *; omega
theorem max_pair (g : Good zs p inc) (k : Good ys q jnc) : PairOk max (eMax zs p inc ys q jnc) zs p inc ys q jnc := by
  refine ⟨fun t ht => max_val g k (by omega), fun t ht => ?_, fun L hL => max_mid (grow_mid g hL) (grow_mid k hL), fun L h1 hL hp hq => ?_, ?_⟩
  · unfold encF; rw [max_val g k (by omega)]; exact max_mid (at_mid g ht) (at_mid k ht)
  · by_cases hi : InfC zs
    · have e : max (growI zs p inc L) (growI ys q jnc L) = infV := by
        rw [growI_inf hi]; have := grow_mid k hL; unfold Mid infV at *; omega
      rw [e]
      exact settling_inf fun t ht => by unfold encF eMax; rw [eC_400 g hi (by omega), omax_none_l]; rfl
    by_cases hj : InfC ys
    · have e : max (growI zs p inc L) (growI ys q jnc L) = infV := by
        rw [growI_inf hj]; have := grow_mid g hL; unfold Mid infV at *; omega
      rw [e]
      exact settling_inf fun t ht => by unfold encF eMax; rw [eC_400 k hj (by omega), omax_none_r]; rfl
    have hv : encF (eMax zs p inc ys q jnc) = maxF (atC zs p inc) (atC ys q jnc) := funext fun t => by unfold encF eMax; rw [eC_fin hi, eC_fin hj]; rfl
    have ha := g.perL hi hp
    have hb := k.perL hj hq
    obtain ⟨g1, g2⟩ := fin_low g hi hL
    obtain ⟨k1, k2⟩ := fin_low k hj hL
    rw [growI_fin hi, growI_fin hj, hv]
    generalize ((L / p : Nat) : Int) * inc = ca at *
    generalize ((L / q : Nat) : Int) * jnc = cb at *
    have hch : ∀ t, 400 ≤ t → t < 400 + L → plI (maxF (atC zs p inc) (atC ys q jnc) t) (max ca cb) = maxF (atC zs p inc) (atC ys q jnc) t + max ca cb := fun t h1 h2 => by
      have a1 := g2 t (by omega)
      have a2 := k2 t (by omega)
      exact plI_fin (by unfold maxF infV; omega) (by unfold infV; omega)
    refine ⟨fun hc => ⟨_, max_found ha hb h1 fun t h3 h4 => by rw [hc t h3 h4, hch t h3 h4]⟩, fun hc hcan => hc fun t h3 h4 => ?_⟩
    obtain ⟨S', hS⟩ := max_late ha hb h1
    rw [hch t h3 h4]
    exact hcan.late hS t h3
  · refine ⟨max_up g k, ?_⟩
    by_cases hi : InfC zs
    · refine .inr fun t x h => ?_
      obtain ⟨y, z, h1, h2, rfl⟩ := both_some_max h
      have := early g hi h1
      have := eC_bd g h1
      have := eC_bd k h2
      unfold infV; omega
    by_cases hj : InfC ys
    · refine .inr fun t x h => ?_
      obtain ⟨y, z, h1, h2, rfl⟩ := both_some_max h
      have := early k hj h2
      have := eC_bd g h1
      have := eC_bd k h2
      unfold infV; omega
    have a1 := g.bd hi 400
    have a2 := k.bd hj 400
    exact .inl ⟨400, Nat.le_refl _, max (atC zs p inc 400) (atC ys q jnc 400), by unfold eMax; rw [eC_fin hi, eC_fin hj]; rfl, by unfold infV; omega⟩

/-! ### One curve -/

def omap (f : Int → Int) : Option Int → Option Int
  | none => none
  | some x => some (f x)

noncomputable def eScale (k : Int) (zs : List Int) (p : Nat) (inc : Int) (t : Nat) : Option Int := omap (fun x => k * x) (eC zs p inc t)
/-- What is asked of a function that is periodic from a start on. -/
structure FromOk (E : Nat → Option Int) (s P : Nat) : Prop where
  mid : ∀ t, t < s + 2 * P → 0 ≤ encF E t ∧ encF E t ≤ infV
  per : ∃ c, Per (encF E) s P c
  tame : Tame E

theorem scale_from (g : Good zs p inc) {k : Int} (hk0 : 1 ≤ k) (hk1 : k ≤ 1073741824) : FromOk (eScale k zs p inc) (zs.length - p) p := by
  have hn := g.few; have h1 := g.p1; have h2 := g.p2; have h3 := g.p3; have hi0 := g.i0; have hi1 := g.i1
  have hmul : ∀ x : Int, 0 ≤ x → x ≤ 2147483648 → 0 ≤ k * x ∧ k * x ≤ 2305843009213693952 := fun x h h' => by
    refine ⟨Int.mul_nonneg (by omega) h, ?_⟩
    have : k * x ≤ 1073741824 * 2147483648 := Int.mul_le_mul hk1 h' h (by omega)
    omega
  by_cases hi : InfC zs
  · refine ⟨fun t ht => ?_, ⟨0, fun t ht => ?_⟩, fun t h => ?_, .inr fun t x h => ?_⟩
    · unfold encF eScale
      rcases eC_inf g hi t with h | ⟨x, h, _, h4, h5⟩
      · rw [h]; show 0 ≤ infV ∧ infV ≤ infV; unfold infV; omega
      · rw [h]; have := hmul x h4 (by omega); show 0 ≤ k * x ∧ k * x ≤ infV; unfold infV; omega
    · obtain ⟨rfl, rfl⟩ := g.tailI hi
      unfold encF eScale
      rw [eC_late g hi (t := t) (by omega), eC_late g hi (t := t + 1) (by omega)]; rfl
    · unfold eScale at *
      cases h4 : eC zs p inc t with
      | none => rw [eC_up g h4]; rfl
      | some x => rw [h4] at h; cases h
    · unfold eScale at h
      rcases eC_inf g hi t with h4 | ⟨y, h4, _, h6, h7⟩
      · rw [h4] at h; cases h
      · rw [h4] at h; cases h
        have := hmul y h6 (by omega)
        show ¬ k * y = infV
        unfold infV; omega
  · have hv : ∀ t, encF (eScale k zs p inc) t = k * atC zs p inc t := fun t => by unfold encF eScale; rw [eC_fin hi]; rfl
    refine ⟨fun t ht => ?_, ⟨k * inc, fun t ht => ?_⟩, fun t h => ?_, .inl ?_⟩
    · rw [hv]
      have hb : 0 ≤ atC zs p inc t ∧ atC zs p inc t ≤ 2147483648 := by
        by_cases hlt : t < zs.length
        · rw [atC_lt hlt]; have := g.small hi hlt; omega
        · have e := g.per hi (t - p) (by omega)
          rw [show t - p + p = t by omega, atC_lt (show t - p < zs.length by omega)] at e
          have := g.small hi (show t - p < zs.length by omega)
          omega
      have := hmul _ hb.1 hb.2
      unfold infV; omega
    · rw [hv, hv, g.per hi t ht, Int.mul_add]
    · unfold eScale at h; rw [eC_fin hi] at h; cases h
    · by_cases h0 : k * atC zs p inc 400 = infV
      · refine ⟨400 + p, by omega, k * atC zs p inc (400 + p), by unfold eScale; rw [eC_fin hi]; rfl, ?_⟩
        rw [g.per hi 400 (by omega), Int.mul_add, h0]
        intro he
        have hz : k * inc = 0 := by omega
        rcases Int.mul_eq_zero.1 hz with h | h
        · omega
        · have e2 := ((g.per hi).mul 400) (zs.length - p) (Nat.le_refl _)
          have hup := g.up (400 * p - (400 - (zs.length - p))) 400
          have hle : 400 ≤ 400 * p := Nat.le_mul_of_pos_right _ (by omega)
          rw [show 400 + (400 * p - (400 - (zs.length - p))) = zs.length - p + 400 * p by omega, e2, h, Int.mul_zero, Int.add_zero, atC_lt (show zs.length - p < zs.length by omega)] at hup
          have h5 := g.small hi (show zs.length - p < zs.length by omega)
          have h6 := (g.bd hi 400).1
          rw [h] at h6 h0
          have := hmul _ h6 (by omega)
          unfold infV at h0; omega
      · exact ⟨400, Nat.le_refl _, k * atC zs p inc 400, by unfold eScale; rw [eC_fin hi]; rfl, h0⟩

end

end Go.Proofs.Ytcpfphlijeajiaa
