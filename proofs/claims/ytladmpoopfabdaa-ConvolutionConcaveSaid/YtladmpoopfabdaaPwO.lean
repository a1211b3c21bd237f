/- The operations on values, and when what they make is periodic. Nothing here speaks of the program. By the verifier's side. -/
import Derived.Test.YtladmpoopfabdaaPwM
namespace Go.Proofs.Ytladmpoopfabdaa

def oadd : Option Int → Option Int → Option Int
  | some x, some y => some (x + y)
  | _, _ => none
def omin : Option Int → Option Int → Option Int
  | none, y => y
  | some x, none => some x
  | some x, some y => some (min x y)
def omax : Option Int → Option Int → Option Int
  | some x, some y => some (max x y)
  | _, _ => none
def plI (a b : Int) : Int := if a = infV ∨ b = infV then infV else a + b

theorem plI_fin {a b : Int} (ha : ¬ a = infV) (hb : ¬ b = infV) : plI a b = a + b := by unfold plI; rw [if_neg (fun h => h.elim ha hb)]
theorem plI_l (b : Int) : plI infV b = infV := by unfold plI; rw [if_pos (.inl rfl)]
theorem plI_r (a : Int) : plI a infV = infV := by unfold plI; rw [if_pos (.inr rfl)]

theorem oadd_none_l (y : Option Int) : oadd none y = none := by cases y <;> rfl
theorem oadd_none_r (x : Option Int) : oadd x none = none := by cases x <;> rfl
theorem omax_none_l (y : Option Int) : omax none y = none := by cases y <;> rfl
theorem omax_none_r (x : Option Int) : omax x none = none := by cases x <;> rfl
theorem omin_none_r (x : Option Int) : omin x none = x := by cases x <;> rfl

/-- How much a curve grows in L ticks in the long run. -/
noncomputable def growI (zs : List Int) (p : Nat) (inc : Int) (L : Nat) : Int :=
  open Classical in if InfC zs then infV else ((L / p : Nat) : Int) * inc
theorem growI_inf {zs : List Int} (h : InfC zs) (p : Nat) (inc : Int) (L : Nat) : growI zs p inc L = infV := by unfold growI; rw [if_pos h]
theorem growI_fin {zs : List Int} (h : ¬ InfC zs) (p : Nat) (inc : Int) (L : Nat) : growI zs p inc L = ((L / p : Nat) : Int) * inc := by unfold growI; rw [if_neg h]

/-- A number that is infinite or small. -/
def Mid (x : Int) : Prop := x = infV ∨ (0 ≤ x ∧ x ≤ 1125899906842624)

def chk (F : Nat → Int) (L : Nat) (G : Int) : Prop := ∀ t, 400 ≤ t → t < 400 + L → F (t + L) = plI (F t) G
/-- The test of one period tells whether there is a curve. -/
def Settling (F : Nat → Int) (L : Nat) (G : Int) : Prop := (chk F L G → ∃ c, Per F 400 L c) ∧ (¬ chk F L G → ¬ CanBe F)
/-- The test of one period from the tick s on. -/
def chkS (F : Nat → Int) (s L : Nat) (G : Int) : Prop := ∀ t, s ≤ t → t < s + L → F (t + L) = plI (F t) G
def SettlingS (F : Nat → Int) (s L : Nat) (G : Int) : Prop := (chkS F s L G → ∃ c, Per F s L c) ∧ (¬ chkS F s L G → ¬ CanBe F)
theorem settling_of {F : Nat → Int} {L : Nat} {G c : Int} (hp : Per F 400 L c) (hc : chk F L G) : Settling F L G := ⟨fun _ => ⟨c, hp⟩, fun h => absurd hc h⟩

theorem settling_inf {F : Nat → Int} {L : Nat} (h : ∀ t, 400 ≤ t → F t = infV) : Settling F L infV :=
  settling_of (c := 0) (fun t ht => by rw [h t ht, h (t + L) (by omega)]; omega) (fun t h1 _ => by rw [h t h1, h (t + L) (by omega), plI_l])

section
variable {zs ys : List Int} {p q : Nat} {inc jnc : Int}

theorem Good.perL (g : Good zs p inc) (hf : ¬ InfC zs) {L : Nat} (hL : L / p * p = L) : Per (atC zs p inc) 400 L (((L / p : Nat) : Int) * inc) := by
  have h := (g.per hf).mul (L / p)
  rw [hL] at h
  have := g.few
  exact h.mono (by omega)

theorem grow_mid (g : Good zs p inc) {L : Nat} (hL : L ≤ 120) : Mid (growI zs p inc L) := by
  by_cases hi : InfC zs
  · rw [growI_inf hi]; exact .inl rfl
  · rw [growI_fin hi]
    have h0 := g.i0; have h1 := g.i1
    have h2 : L / p ≤ 120 := Nat.le_trans (Nat.div_le_self _ _) hL
    refine .inr ⟨Int.mul_nonneg (Int.natCast_nonneg _) h0, ?_⟩
    have : ((L / p : Nat) : Int) * inc ≤ 120 * 1073741824 := Int.mul_le_mul (by omega) h1 h0 (by omega)
    omega

theorem at_mid (g : Good zs p inc) {t : Nat} (ht : t ≤ 1000) : Mid (atC zs p inc t) := by
  rcases g.seen (t := t) (by omega) with h | ⟨_, h2, h3⟩
  · exact .inl h.2
  · exact .inr ⟨h2, by omega⟩

/-- The value of a curve at a tick that is not late, and the value with infinity. -/
theorem eC_cases (g : Good zs p inc) {t : Nat} (_ht : t ≤ 1048576) : (eC zs p inc t = none ∧ atC zs p inc t = infV) ∨ (∃ x, eC zs p inc t = some x ∧ atC zs p inc t = x ∧ 0 ≤ x ∧ x ≤ 1073741824 * ((t : Int) + 1)) := by
  cases h : eC zs p inc t with
  | none => exact .inl ⟨rfl, (eC_none.1 h).2⟩
  | some x => have := eC_bd g h; exact .inr ⟨x, rfl, this.2.2, this.1, this.2.1⟩

theorem eC_400 (g : Good zs p inc) (hi : InfC zs) {t : Nat} (ht : 399 ≤ t) : eC zs p inc t = none := eC_late g hi (by have := g.few; omega)

/-! ### Sum -/

noncomputable def eSum (zs : List Int) (p : Nat) (inc : Int) (ys : List Int) (q : Nat) (jnc : Int) (t : Nat) : Option Int := oadd (eC zs p inc t) (eC ys q jnc t)
noncomputable def eMin (zs : List Int) (p : Nat) (inc : Int) (ys : List Int) (q : Nat) (jnc : Int) (t : Nat) : Option Int := omin (eC zs p inc t) (eC ys q jnc t)
noncomputable def eMax (zs : List Int) (p : Nat) (inc : Int) (ys : List Int) (q : Nat) (jnc : Int) (t : Nat) : Option Int := omax (eC zs p inc t) (eC ys q jnc t)

/-- What is asked of a choice between two curves. -/
structure PairOk (ch : Int → Int → Int) (E : Nat → Option Int) (zs : List Int) (p : Nat) (inc : Int) (ys : List Int) (q : Nat) (jnc : Int) : Prop where
  val : ∀ t, t ≤ 1000 → encF E t = ch (atC zs p inc t) (atC ys q jnc t)
  mid : ∀ t, t ≤ 1000 → Mid (encF E t)
  gmid : ∀ L, L ≤ 120 → Mid (ch (growI zs p inc L) (growI ys q jnc L))
  settle : ∀ L, 1 ≤ L → L ≤ 120 → L / p * p = L → L / q * q = L → Settling (encF E) L (ch (growI zs p inc L) (growI ys q jnc L))
  tame : Tame E

theorem sum_mid {x y : Int} (hx : x = infV ∨ (0 ≤ x ∧ x ≤ 1099511627776)) (hy : y = infV ∨ (0 ≤ y ∧ y ≤ 1099511627776)) : Mid (plI x y) := by
  unfold Mid plI
  rcases hx with rfl | hx
  · rw [if_pos (.inl rfl)]; exact .inl rfl
  · rcases hy with rfl | hy
    · rw [if_pos (.inr rfl)]; exact .inl rfl
    · rw [if_neg]
      · exact .inr ⟨by omega, by omega⟩
      · unfold infV; omega

theorem grow_low (g : Good zs p inc) {L : Nat} (hL : L ≤ 120) : growI zs p inc L = infV ∨ (0 ≤ growI zs p inc L ∧ growI zs p inc L ≤ 1099511627776) := by
  by_cases hi : InfC zs
  · exact .inl (growI_inf hi p inc L)
  · rw [growI_fin hi]
    have h0 := g.i0; have h1 := g.i1
    have h2 : L / p ≤ 120 := Nat.le_trans (Nat.div_le_self _ _) hL
    refine .inr ⟨Int.mul_nonneg (Int.natCast_nonneg _) h0, ?_⟩
    have : ((L / p : Nat) : Int) * inc ≤ 120 * 1073741824 := Int.mul_le_mul (by omega) h1 h0 (by omega)
    omega

theorem at_low (g : Good zs p inc) {t : Nat} (ht : t ≤ 1000) : atC zs p inc t = infV ∨ (0 ≤ atC zs p inc t ∧ atC zs p inc t ≤ 1099511627776) := by
  rcases g.seen (t := t) (by omega) with h | ⟨_, h2, h3⟩
  · exact .inl h.2
  · exact .inr ⟨h2, by omega⟩

/-- Of a finite curve the growth and the early values are small. -/
theorem fin_low (g : Good zs p inc) (hf : ¬ InfC zs) {L : Nat} (hL : L ≤ 120) : (0 ≤ ((L / p : Nat) : Int) * inc ∧ ((L / p : Nat) : Int) * inc ≤ 1099511627776) ∧ ∀ t, t ≤ 1000 → 0 ≤ atC zs p inc t ∧ atC zs p inc t ≤ 1099511627776 := by
  refine ⟨?_, fun t ht => ?_⟩
  · have := grow_low g hL
    rw [growI_fin hf] at this
    rcases this with h | h
    · exfalso
      have h0 := g.i0; have h1 := g.i1
      have h2 : L / p ≤ 120 := Nat.le_trans (Nat.div_le_self _ _) hL
      have : ((L / p : Nat) : Int) * inc ≤ 120 * 1073741824 := Int.mul_le_mul (by omega) h1 h0 (by omega)
      unfold infV at h; omega
    · exact h
  · have := g.bd hf t
    omega

theorem sum_val (g : Good zs p inc) (k : Good ys q jnc) {t : Nat} (ht : t ≤ 1048576) : enc (eSum zs p inc ys q jnc t) = plI (atC zs p inc t) (atC ys q jnc t) := by
  unfold eSum
  rcases eC_cases g ht with ⟨h1, h2⟩ | ⟨x, h1, h2, h3, h4⟩
  · rw [h1, h2, plI_l, oadd_none_l]; rfl
  · rcases eC_cases k ht with ⟨k1, k2⟩ | ⟨y, k1, k2, k3, k4⟩
    · rw [k1, k2, plI_r, oadd_none_r]; rfl
    · rw [h1, k1, h2, k2, plI_fin (by unfold infV; omega) (by unfold infV; omega)]; rfl

theorem min_val (g : Good zs p inc) (k : Good ys q jnc) {t : Nat} (ht : t ≤ 1048576) : enc (eMin zs p inc ys q jnc t) = min (atC zs p inc t) (atC ys q jnc t) := by
  unfold eMin
  rcases eC_cases g ht with ⟨h1, h2⟩ | ⟨x, h1, h2, h3, h4⟩
  · rcases eC_cases k ht with ⟨k1, k2⟩ | ⟨y, k1, k2, k3, k4⟩
    · rw [h1, k1, h2, k2]; show infV = _; omega
    · rw [h1, k1, h2, k2]; show y = _; unfold infV; omega
  · rcases eC_cases k ht with ⟨k1, k2⟩ | ⟨y, k1, k2, k3, k4⟩
    · rw [h1, k1, h2, k2]; show x = _; unfold infV; omega
    · rw [h1, k1, h2, k2]; rfl

theorem max_val (g : Good zs p inc) (k : Good ys q jnc) {t : Nat} (ht : t ≤ 1048576) : enc (eMax zs p inc ys q jnc t) = max (atC zs p inc t) (atC ys q jnc t) := by
  unfold eMax
  rcases eC_cases g ht with ⟨h1, h2⟩ | ⟨x, h1, h2, h3, h4⟩
  · rcases eC_cases k ht with ⟨k1, k2⟩ | ⟨y, k1, k2, k3, k4⟩
    · rw [h1, k1, h2, k2]; show infV = _; omega
    · rw [h1, k1, h2, k2]; show infV = _; unfold infV; omega
  · rcases eC_cases k ht with ⟨k1, k2⟩ | ⟨y, k1, k2, k3, k4⟩
    · rw [h1, k1, h2, k2]; show infV = _; unfold infV; omega
    · rw [h1, k1, h2, k2]; rfl

theorem tame_400 {E : Nat → Option Int} (hu : ∀ t, E t = none → E (t + 1) = none) {y : Int} (h : E 400 = some y) (hy : y ≤ 1125899906842624) : Tame E :=
  ⟨hu, .inl ⟨400, Nat.le_refl _, y, h, by unfold infV; omega⟩⟩

theorem sum_up (g : Good zs p inc) (k : Good ys q jnc) (t : Nat) (h : eSum zs p inc ys q jnc t = none) : eSum zs p inc ys q jnc (t + 1) = none := by
  unfold eSum at *
  cases h1 : eC zs p inc t with
  | none => rw [eC_up g h1, oadd_none_l]
  | some x =>
    cases h2 : eC ys q jnc t with
    | none => rw [eC_up k h2, oadd_none_r]
    | some y => rw [h1, h2] at h; cases h

theorem max_up (g : Good zs p inc) (k : Good ys q jnc) (t : Nat) (h : eMax zs p inc ys q jnc t = none) : eMax zs p inc ys q jnc (t + 1) = none := by
  unfold eMax at *
  cases h1 : eC zs p inc t with
  | none => rw [eC_up g h1, omax_none_l]
  | some x =>
    cases h2 : eC ys q jnc t with
    | none => rw [eC_up k h2, omax_none_r]
    | some y => rw [h1, h2] at h; cases h

theorem min_up (g : Good zs p inc) (k : Good ys q jnc) (t : Nat) (h : eMin zs p inc ys q jnc t = none) : eMin zs p inc ys q jnc (t + 1) = none := by
  unfold eMin at *
  cases h1 : eC zs p inc t with
  | none =>
    cases h2 : eC ys q jnc t with
    | none => rw [eC_up g h1, eC_up k h2]; rfl
    | some y => rw [h1, h2] at h; cases h
  | some x => cases h2 : eC ys q jnc t <;> (rw [h1, h2] at h; cases h)

/-- Of an infinite sum or maximum the finite values are small. -/
theorem both_some {a b : Option Int} {x : Int} (h : oadd a b = some x) : ∃ y z, a = some y ∧ b = some z ∧ x = y + z := by
  cases a with
  | none => rw [oadd_none_l] at h; cases h
  | some y =>
    cases b with
    | none => cases h
    | some z => exact ⟨y, z, rfl, rfl, by cases h; rfl⟩
theorem both_some_max {a b : Option Int} {x : Int} (h : omax a b = some x) : ∃ y z, a = some y ∧ b = some z ∧ x = max y z := by
  cases a with
  | none => rw [omax_none_l] at h; cases h
  | some y =>
    cases b with
    | none => cases h
    | some z => exact ⟨y, z, rfl, rfl, by cases h; rfl⟩

/-- In a sum or maximum with an infinite curve the ticks with a finite value are early. -/
theorem early (g : Good zs p inc) (hi : InfC zs) {t : Nat} {y : Int} (h : eC zs p inc t = some y) : t ≤ 399 := by
  refine Nat.le_of_not_lt fun hlt => ?_
  rw [eC_400 g hi (by omega)] at h; cases h

theorem sum_pair (g : Good zs p inc) (k : Good ys q jnc) : PairOk plI (eSum zs p inc ys q jnc) zs p inc ys q jnc := by
  have hmid : ∀ t, t ≤ 1000 → Mid (encF (eSum zs p inc ys q jnc) t) := fun t ht => by
    unfold encF; rw [sum_val g k (by omega)]; exact sum_mid (at_low g ht) (at_low k ht)
  refine ⟨fun t ht => sum_val g k (by omega), hmid, fun L hL => sum_mid (grow_low g hL) (grow_low k hL), fun L h1 hL hp hq => ?_, ?_⟩
  · by_cases hi : InfC zs
    · rw [growI_inf hi, plI_l]
      exact settling_inf fun t ht => by unfold encF eSum; rw [eC_400 g hi (by omega), oadd_none_l]; rfl
    by_cases hj : InfC ys
    · rw [growI_inf hj, plI_r]
      exact settling_inf fun t ht => by unfold encF eSum; rw [eC_400 k hj (by omega), oadd_none_r]; rfl
    have hv : ∀ t, encF (eSum zs p inc ys q jnc) t = atC zs p inc t + atC ys q jnc t := fun t => by unfold encF eSum; rw [eC_fin hi, eC_fin hj]; rfl
    have ha := g.perL hi hp
    have hb := k.perL hj hq
    obtain ⟨g1, g2⟩ := fin_low g hi hL
    obtain ⟨k1, k2⟩ := fin_low k hj hL
    rw [growI_fin hi, growI_fin hj, plI_fin (by unfold infV; omega) (by unfold infV; omega)]
    refine settling_of (c := ((L / p : Nat) : Int) * inc + ((L / q : Nat) : Int) * jnc) (fun t ht => ?_) (fun t h1 h2 => ?_)
    · rw [hv, hv, ha t ht, hb t ht]; omega
    · have a1 := g2 t (by omega)
      have a2 := k2 t (by omega)
      rw [hv, hv, plI_fin (by unfold infV; omega) (by unfold infV; omega), ha t h1, hb t h1]; omega
  · refine ⟨sum_up g k, ?_⟩
    by_cases hi : InfC zs
    · refine .inr fun t x h => ?_
      obtain ⟨y, z, h1, h2, rfl⟩ := both_some h
      have := early g hi h1
      have := eC_bd g h1
      have := eC_bd k h2
      unfold infV; omega
    by_cases hj : InfC ys
    · refine .inr fun t x h => ?_
      obtain ⟨y, z, h1, h2, rfl⟩ := both_some h
      have := early k hj h2
      have := eC_bd g h1
      have := eC_bd k h2
      unfold infV; omega
    have a1 := g.bd hi 400
    have a2 := k.bd hj 400
    exact .inl ⟨400, Nat.le_refl _, atC zs p inc 400 + atC ys q jnc 400, by unfold eSum; rw [eC_fin hi, eC_fin hj]; rfl, by unfold infV; omega⟩

theorem max_mid {x y : Int} (hx : Mid x) (hy : Mid y) : Mid (max x y) := by
  unfold Mid infV at *; omega
theorem min_mid {x y : Int} (hx : Mid x) (hy : Mid y) : Mid (min x y) := by
  unfold Mid infV at *; omega

theorem max_pair (g : Good zs p inc) (k : Good ys q jnc) : PairOk max (eMax zs p inc ys q jnc) zs p inc ys q jnc := by
  refine ⟨fun t ht => max_val g k (by omega), fun t ht => ?_, fun L hL => max_mid (grow_mid g hL) (grow_mid k hL), fun L h1 hL hp hq => ?_, ?_⟩
  · unfold encF; rw [max_val g k (by omega)]; exact max_mid (at_mid g ht) (at_mid k ht)
  · by_cases hi : InfC zs
    · have e : max (growI zs p inc L) (growI ys q jnc L) = infV := by
        rw [growI_inf hi]; have := grow_mid k hL; unfold Mid infV at *; omega
      rw [e]
      exact settling_inf fun t ht => by unfold encF eMax; rw [eC_400 g hi (by omega), omax_none_l]; rfl
    by_cases hj : InfC ys
    · have e : max (growI zs p inc L) (growI ys q jnc L) = infV := by
        rw [growI_inf hj]; have := grow_mid g hL; unfold Mid infV at *; omega
      rw [e]
      exact settling_inf fun t ht => by unfold encF eMax; rw [eC_400 k hj (by omega), omax_none_r]; rfl
    have hv : encF (eMax zs p inc ys q jnc) = maxF (atC zs p inc) (atC ys q jnc) := funext fun t => by unfold encF eMax; rw [eC_fin hi, eC_fin hj]; rfl
    have ha := g.perL hi hp
    have hb := k.perL hj hq
    obtain ⟨g1, g2⟩ := fin_low g hi hL
    obtain ⟨k1, k2⟩ := fin_low k hj hL
    rw [growI_fin hi, growI_fin hj, hv]
    generalize ((L / p : Nat) : Int) * inc = ca at *
    generalize ((L / q : Nat) : Int) * jnc = cb at *
    have hch : ∀ t, 400 ≤ t → t < 400 + L → plI (maxF (atC zs p inc) (atC ys q jnc) t) (max ca cb) = maxF (atC zs p inc) (atC ys q jnc) t + max ca cb := fun t h1 h2 => by
      have a1 := g2 t (by omega)
      have a2 := k2 t (by omega)
      exact plI_fin (by unfold maxF infV; omega) (by unfold infV; omega)
    refine ⟨fun hc => ⟨_, max_found ha hb h1 fun t h3 h4 => by rw [hc t h3 h4, hch t h3 h4]⟩, fun hc hcan => hc fun t h3 h4 => ?_⟩
    obtain ⟨S', hS⟩ := max_late ha hb h1
    rw [hch t h3 h4]
    exact hcan.late hS t h3
  · refine ⟨max_up g k, ?_⟩
    by_cases hi : InfC zs
    · refine .inr fun t x h => ?_
      obtain ⟨y, z, h1, h2, rfl⟩ := both_some_max h
      have := early g hi h1
      have := eC_bd g h1
      have := eC_bd k h2
      unfold infV; omega
    by_cases hj : InfC ys
    · refine .inr fun t x h => ?_
      obtain ⟨y, z, h1, h2, rfl⟩ := both_some_max h
      have := early k hj h2
      have := eC_bd g h1
      have := eC_bd k h2
      unfold infV; omega
    have a1 := g.bd hi 400
    have a2 := k.bd hj 400
    exact .inl ⟨400, Nat.le_refl _, max (atC zs p inc 400) (atC ys q jnc 400), by unfold eMax; rw [eC_fin hi, eC_fin hj]; rfl, by unfold infV; omega⟩

theorem min_pair (g : Good zs p inc) (k : Good ys q jnc) : PairOk min (eMin zs p inc ys q jnc) zs p inc ys q jnc := by
  refine ⟨fun t ht => min_val g k (by omega), fun t ht => ?_, fun L hL => min_mid (grow_mid g hL) (grow_mid k hL), fun L h1 hL hp hq => ?_, ?_⟩
  · unfold encF; rw [min_val g k (by omega)]; exact min_mid (at_mid g ht) (at_mid k ht)
  · by_cases hi : InfC zs
    · by_cases hj : InfC ys
      · have e : min (growI zs p inc L) (growI ys q jnc L) = infV := by rw [growI_inf hi, growI_inf hj]; omega
        rw [e]
        exact settling_inf fun t ht => by unfold encF eMin; rw [eC_400 g hi (by omega), eC_400 k hj (by omega)]; rfl
      · have hb := k.perL hj hq
        obtain ⟨k1, k2⟩ := fin_low k hj hL
        have e : min (growI zs p inc L) (growI ys q jnc L) = ((L / q : Nat) : Int) * jnc := by rw [growI_inf hi, growI_fin hj]; unfold infV; omega
        have hv : ∀ t, 400 ≤ t → encF (eMin zs p inc ys q jnc) t = atC ys q jnc t := fun t ht => by unfold encF eMin; rw [eC_400 g hi (by omega), eC_fin hj]; rfl
        rw [e]
        refine settling_of (c := ((L / q : Nat) : Int) * jnc) (fun t ht => ?_) (fun t h1 h2 => ?_)
        · rw [hv t ht, hv (t + L) (by omega), hb t ht]
        · have a2 := k2 t (by omega)
          rw [hv t h1, hv (t + L) (by omega), hb t h1, plI_fin (by unfold infV; omega) (by unfold infV; omega)]
    by_cases hj : InfC ys
    · have hb := g.perL hi hp
      obtain ⟨k1, k2⟩ := fin_low g hi hL
      have e : min (growI zs p inc L) (growI ys q jnc L) = ((L / p : Nat) : Int) * inc := by rw [growI_inf hj, growI_fin hi]; unfold infV; omega
      have hv : ∀ t, 400 ≤ t → encF (eMin zs p inc ys q jnc) t = atC zs p inc t := fun t ht => by unfold encF eMin; rw [eC_400 k hj (by omega), eC_fin hi]; rfl
      rw [e]
      refine settling_of (c := ((L / p : Nat) : Int) * inc) (fun t ht => ?_) (fun t h1 h2 => ?_)
      · rw [hv t ht, hv (t + L) (by omega), hb t ht]
      · have a2 := k2 t (by omega)
        rw [hv t h1, hv (t + L) (by omega), hb t h1, plI_fin (by unfold infV; omega) (by unfold infV; omega)]
    have hv : encF (eMin zs p inc ys q jnc) = minF (atC zs p inc) (atC ys q jnc) := funext fun t => by unfold encF eMin; rw [eC_fin hi, eC_fin hj]; rfl
    have ha := g.perL hi hp
    have hb := k.perL hj hq
    obtain ⟨g1, g2⟩ := fin_low g hi hL
    obtain ⟨k1, k2⟩ := fin_low k hj hL
    rw [growI_fin hi, growI_fin hj, hv]
    generalize ((L / p : Nat) : Int) * inc = ca at *
    generalize ((L / q : Nat) : Int) * jnc = cb at *
    have hch : ∀ t, 400 ≤ t → t < 400 + L → plI (minF (atC zs p inc) (atC ys q jnc) t) (min ca cb) = minF (atC zs p inc) (atC ys q jnc) t + min ca cb := fun t h1 h2 => by
      have a1 := g2 t (by omega)
      have a2 := k2 t (by omega)
      exact plI_fin (by unfold minF infV; omega) (by unfold infV; omega)
    refine ⟨fun hc => ⟨_, min_found ha hb h1 fun t h3 h4 => by rw [hc t h3 h4, hch t h3 h4]⟩, fun hc hcan => hc fun t h3 h4 => ?_⟩
    obtain ⟨S', hS⟩ := min_late ha hb h1
    rw [hch t h3 h4]
    exact hcan.late hS t h3
  · refine ⟨min_up g k, ?_⟩
    by_cases hi : InfC zs
    · by_cases hj : InfC ys
      · refine .inr fun t x h => ?_
        unfold eMin at h
        cases h1 : eC zs p inc t with
        | none =>
          rw [h1] at h
          have h2 : eC ys q jnc t = some x := h
          have := early k hj h2
          have := eC_bd k h2
          unfold infV; omega
        | some y =>
          have := early g hi h1
          have := eC_bd g h1
          cases h2 : eC ys q jnc t with
          | none => rw [h1, h2] at h; cases h; unfold infV; omega
          | some z => have := eC_bd k h2; rw [h1, h2] at h; cases h; unfold infV; omega
      · have a2 := k.bd hj 400
        exact .inl ⟨400, Nat.le_refl _, atC ys q jnc 400, by unfold eMin; rw [eC_400 g hi (by omega), eC_fin hj]; rfl, by unfold infV; omega⟩
    by_cases hj : InfC ys
    · have a2 := g.bd hi 400
      exact .inl ⟨400, Nat.le_refl _, atC zs p inc 400, by unfold eMin; rw [eC_400 k hj (by omega), eC_fin hi]; rfl, by unfold infV; omega⟩
    have a1 := g.bd hi 400
    have a2 := k.bd hj 400
    exact .inl ⟨400, Nat.le_refl _, min (atC zs p inc 400) (atC ys q jnc 400), by unfold eMin; rw [eC_fin hi, eC_fin hj]; rfl, by unfold infV; omega⟩

/-! ### One curve -/

def omap (f : Int → Int) : Option Int → Option Int
  | none => none
  | some x => some (f x)

noncomputable def eScale (k : Int) (zs : List Int) (p : Nat) (inc : Int) (t : Nat) : Option Int := omap (fun x => k * x) (eC zs p inc t)
noncomputable def eLater (d : Nat) (zs : List Int) (p : Nat) (inc : Int) (t : Nat) : Option Int := if t < d then some 0 else eC zs p inc (t - d)
noncomputable def eAhead (d : Nat) (zs : List Int) (p : Nat) (inc : Int) (t : Nat) : Option Int := if t = 0 then some 0 else eC zs p inc (t + d)
noncomputable def eLower (c : Int) (zs : List Int) (p : Nat) (inc : Int) (t : Nat) : Option Int := omap (fun x => max (x - c) 0) (eC zs p inc t)
noncomputable def eRaise (c : Int) (zs : List Int) (p : Nat) (inc : Int) (t : Nat) : Option Int := if t = 0 then some 0 else omap (fun x => x + c) (eC zs p inc t)

/-- What is asked of a function that is periodic from a start on. -/
structure FromOk (E : Nat → Option Int) (s P : Nat) : Prop where
  mid : ∀ t, t < s + 2 * P → 0 ≤ encF E t ∧ encF E t ≤ infV
  per : ∃ c, Per (encF E) s P c
  tame : Tame E

theorem scale_val (g : Good zs p inc) {k : Int} {t : Nat} (ht : t ≤ 1048576) : enc (eScale k zs p inc t) = if atC zs p inc t = infV then infV else k * atC zs p inc t := by
  unfold eScale
  rcases eC_cases g ht with ⟨h1, h2⟩ | ⟨x, h1, h2, h3, h4⟩
  · rw [h1, h2, if_pos rfl]; rfl
  · rw [h1, h2, if_neg (by unfold infV; omega)]; rfl

theorem scale_from (g : Good zs p inc) {k : Int} (hk0 : 1 ≤ k) (hk1 : k ≤ 1073741824) : FromOk (eScale k zs p inc) (zs.length - p) p := by
  have hn := g.few; have h1 := g.p1; have h2 := g.p2; have h3 := g.p3; have hi0 := g.i0; have hi1 := g.i1
  have hmul : ∀ x : Int, 0 ≤ x → x ≤ 2147483648 → 0 ≤ k * x ∧ k * x ≤ 2305843009213693952 := fun x h h' => by
    refine ⟨Int.mul_nonneg (by omega) h, ?_⟩
    have : k * x ≤ 1073741824 * 2147483648 := Int.mul_le_mul hk1 h' h (by omega)
    omega
  by_cases hi : InfC zs
  · refine ⟨fun t ht => ?_, ⟨0, fun t ht => ?_⟩, fun t h => ?_, .inr fun t x h => ?_⟩
    · unfold encF eScale
      rcases eC_inf g hi t with h | ⟨x, h, _, h4, h5⟩
      · rw [h]; show 0 ≤ infV ∧ infV ≤ infV; unfold infV; omega
      · rw [h]; have := hmul x h4 (by omega); show 0 ≤ k * x ∧ k * x ≤ infV; unfold infV; omega
    · obtain ⟨rfl, rfl⟩ := g.tailI hi
      unfold encF eScale
      rw [eC_late g hi (t := t) (by omega), eC_late g hi (t := t + 1) (by omega)]; rfl
    · unfold eScale at *
      cases h4 : eC zs p inc t with
      | none => rw [eC_up g h4]; rfl
      | some x => rw [h4] at h; cases h
    · unfold eScale at h
      rcases eC_inf g hi t with h4 | ⟨y, h4, _, h6, h7⟩
      · rw [h4] at h; cases h
      · rw [h4] at h; cases h
        have := hmul y h6 (by omega)
        show ¬ k * y = infV
        unfold infV; omega
  · have hv : ∀ t, encF (eScale k zs p inc) t = k * atC zs p inc t := fun t => by unfold encF eScale; rw [eC_fin hi]; rfl
    refine ⟨fun t ht => ?_, ⟨k * inc, fun t ht => ?_⟩, fun t h => ?_, .inl ?_⟩
    · rw [hv]
      have hb : 0 ≤ atC zs p inc t ∧ atC zs p inc t ≤ 2147483648 := by
        by_cases hlt : t < zs.length
        · rw [atC_lt hlt]; have := g.small hi hlt; omega
        · have e := g.per hi (t - p) (by omega)
          rw [show t - p + p = t by omega, atC_lt (show t - p < zs.length by omega)] at e
          have := g.small hi (show t - p < zs.length by omega)
          omega
      have := hmul _ hb.1 hb.2
      unfold infV; omega
    · rw [hv, hv, g.per hi t ht, Int.mul_add]
    · unfold eScale at h; rw [eC_fin hi] at h; cases h
    · by_cases h0 : k * atC zs p inc 400 = infV
      · refine ⟨400 + p, by omega, k * atC zs p inc (400 + p), by unfold eScale; rw [eC_fin hi]; rfl, ?_⟩
        rw [g.per hi 400 (by omega), Int.mul_add, h0]
        intro he
        have hz : k * inc = 0 := by omega
        rcases Int.mul_eq_zero.1 hz with h | h
        · omega
        · have e2 := ((g.per hi).mul 400) (zs.length - p) (Nat.le_refl _)
          have hup := g.up (400 * p - (400 - (zs.length - p))) 400
          have hle : 400 ≤ 400 * p := Nat.le_mul_of_pos_right _ (by omega)
          rw [show 400 + (400 * p - (400 - (zs.length - p))) = zs.length - p + 400 * p by omega, e2, h, Int.mul_zero, Int.add_zero, atC_lt (show zs.length - p < zs.length by omega)] at hup
          have h5 := g.small hi (show zs.length - p < zs.length by omega)
          have h6 := (g.bd hi 400).1
          rw [h] at h6 h0
          have := hmul _ h6 (by omega)
          unfold infV at h0; omega
      · exact ⟨400, Nat.le_refl _, k * atC zs p inc 400, by unfold eScale; rw [eC_fin hi]; rfl, h0⟩

theorem later_val (_g : Good zs p inc) {d t : Nat} : enc (eLater d zs p inc t) = if t < d then 0 else atC zs p inc (t - d) := by
  unfold eLater
  by_cases h : t < d
  · rw [if_pos h, if_pos h]; rfl
  · rw [if_neg h, if_neg h, enc_eC]

theorem later_from (g : Good zs p inc) {d : Nat} (hd : d ≤ 401) : FromOk (eLater d zs p inc) (zs.length - p + d) p := by
  have hn := g.few; have h1 := g.p1; have h2 := g.p2; have h3 := g.p3
  refine ⟨fun t ht => ?_, ⟨inc, fun t ht => ?_⟩, fun t h => ?_, ?_⟩
  · unfold encF; rw [later_val g]
    split
    · unfold infV; omega
    · exact at_bd g (by omega)
  · unfold encF; rw [later_val g, later_val g, if_neg (by omega), if_neg (by omega), show t + p - d = t - d + p by omega]
    exact g.perAny _ (by omega)
  · unfold eLater at *
    by_cases hlt : t < d
    · rw [if_pos hlt] at h; cases h
    · rw [if_neg hlt] at h; rw [if_neg (by omega), show t + 1 - d = t - d + 1 by omega]; exact eC_up g h
  · by_cases hi : InfC zs
    · refine .inr fun t x h => ?_
      unfold eLater at h
      by_cases hlt : t < d
      · rw [if_pos hlt] at h; cases h; unfold infV; omega
      · rw [if_neg hlt] at h
        rcases eC_inf g hi (t - d) with h4 | ⟨y, h4, _, h6, h7⟩
        · rw [h4] at h; cases h
        · rw [h4] at h; cases h; unfold infV; omega
    · refine .inl ⟨1000, by omega, atC zs p inc (1000 - d), ?_, ?_⟩
      · unfold eLater; rw [if_neg (by omega), eC_fin hi]
      · have := g.bd hi (1000 - d); unfold infV; omega

theorem ahead_val (_g : Good zs p inc) {d t : Nat} : enc (eAhead d zs p inc t) = if t = 0 then 0 else atC zs p inc (t + d) := by
  unfold eAhead
  by_cases h : t = 0
  · rw [if_pos h, if_pos h]; rfl
  · rw [if_neg h, if_neg h, enc_eC]

theorem ahead_from (g : Good zs p inc) {d s : Nat} (hd : d ≤ 1048576) (hs1 : 1 ≤ s) (hs2 : zs.length - p ≤ s + d) (hs3 : s ≤ 400) : FromOk (eAhead d zs p inc) s p := by
  have hn := g.few; have h1 := g.p1; have h2 := g.p2; have h3 := g.p3
  have hbd : ∀ t, t ≤ 1000 → 0 ≤ atC zs p inc (t + d) ∧ atC zs p inc (t + d) ≤ infV ∧ (¬ InfC zs → ¬ atC zs p inc (t + d) = infV) := fun t ht => by
    by_cases hi : InfC zs
    · rcases g.inf_small hi (t + d) with h | h
      · rw [h]; exact ⟨by unfold infV; omega, Int.le_refl _, fun h => absurd hi h⟩
      · exact ⟨h.1, by unfold infV; omega, fun h => absurd hi h⟩
    · have := g.bd hi (t + d)
      have e : (1073741824 : Int) * (((t + d : Nat) : Int) + 1) ≤ 1073741824 * 1050000 := Int.mul_le_mul_of_nonneg_left (by omega) (by omega)
      exact ⟨this.1, by unfold infV; omega, fun _ => by unfold infV; omega⟩
  refine ⟨fun t ht => ?_, ⟨inc, fun t ht => ?_⟩, fun t h => ?_, ?_⟩
  · unfold encF; rw [ahead_val g]
    split
    · unfold infV; omega
    · exact ⟨(hbd t (by omega)).1, (hbd t (by omega)).2.1⟩
  · unfold encF; rw [ahead_val g, ahead_val g, if_neg (by omega), if_neg (by omega), show t + p + d = t + d + p by omega]
    exact g.perAny _ (by omega)
  · unfold eAhead at *
    by_cases hlt : t = 0
    · rw [if_pos hlt] at h; cases h
    · rw [if_neg hlt] at h; rw [if_neg (by omega), show t + 1 + d = t + d + 1 by omega]; exact eC_up g h
  · by_cases hi : InfC zs
    · refine .inr fun t x h => ?_
      unfold eAhead at h
      by_cases hlt : t = 0
      · rw [if_pos hlt] at h; cases h; unfold infV; omega
      · rw [if_neg hlt] at h
        rcases eC_inf g hi (t + d) with h4 | ⟨y, h4, _, h6, h7⟩
        · rw [h4] at h; cases h
        · rw [h4] at h; cases h; unfold infV; omega
    · refine .inl ⟨400, by omega, atC zs p inc (400 + d), ?_, (hbd 400 (by omega)).2.2 hi⟩
      unfold eAhead; rw [if_neg (by omega), eC_fin hi]

theorem raise_val (g : Good zs p inc) {c : Int} {t : Nat} (ht : t ≤ 1048576) (hc : c ≤ 1073741824) : enc (eRaise c zs p inc t) = if t = 0 then 0 else plI (atC zs p inc t) c := by
  unfold eRaise
  by_cases h : t = 0
  · rw [if_pos h, if_pos h]; rfl
  · rw [if_neg h, if_neg h]
    rcases eC_cases g ht with ⟨h1, h2⟩ | ⟨x, h1, h2, h3, h4⟩
    · rw [h1, h2, plI_l]; rfl
    · rw [h1, h2, plI_fin (by unfold infV; omega) (by unfold infV; omega)]; rfl

theorem raise_from (g : Good zs p inc) {c : Int} {s : Nat} (hc0 : 0 ≤ c) (hc : c ≤ 1073741824) (hs1 : 1 ≤ s) (hs2 : zs.length - p ≤ s) (hs3 : s ≤ 400) : FromOk (eRaise c zs p inc) s p := by
  have hn := g.few; have h1 := g.p1; have h2 := g.p2; have h3 := g.p3
  refine ⟨fun t ht => ?_, ?_, fun t h => ?_, ?_⟩
  · unfold encF; rw [raise_val g (by omega) hc]
    split
    · unfold infV; omega
    · have := sum_mid (at_low g (t := t) (by omega)) (y := c) (.inr ⟨hc0, by omega⟩)
      unfold Mid infV at *; omega
  · by_cases hi : InfC zs
    · refine ⟨0, fun t ht => ?_⟩
      obtain ⟨rfl, rfl⟩ := g.tailI hi
      unfold encF eRaise
      rw [if_neg (by omega), if_neg (by omega), eC_late g hi (t := t) (by omega), eC_late g hi (t := t + 1) (by omega)]; rfl
    · refine ⟨inc, fun t ht => ?_⟩
      unfold encF eRaise
      rw [if_neg (by omega), if_neg (by omega), eC_fin hi, eC_fin hi]
      show atC zs p inc (t + p) + c = atC zs p inc t + c + inc
      rw [g.per hi t (by omega)]; omega
  · unfold eRaise at *
    by_cases hlt : t = 0
    · rw [if_pos hlt] at h; cases h
    · rw [if_neg hlt] at h; rw [if_neg (by omega)]
      cases h4 : eC zs p inc t with
      | none => rw [eC_up g h4]; rfl
      | some x => rw [h4] at h; cases h
  · by_cases hi : InfC zs
    · refine .inr fun t x h => ?_
      unfold eRaise at h
      by_cases hlt : t = 0
      · rw [if_pos hlt] at h; cases h; unfold infV; omega
      · rw [if_neg hlt] at h
        rcases eC_inf g hi t with h4 | ⟨y, h4, _, h6, h7⟩
        · rw [h4] at h; cases h
        · rw [h4] at h; cases h; show ¬ y + c = infV; unfold infV; omega
    · refine .inl ⟨400, by omega, atC zs p inc 400 + c, ?_, ?_⟩
      · unfold eRaise; rw [if_neg (by omega), eC_fin hi]; rfl
      · have := g.bd hi 400; unfold infV; omega

theorem lower_val (g : Good zs p inc) {c : Int} {t : Nat} (ht : t ≤ 1048576) : enc (eLower c zs p inc t) = if atC zs p inc t = infV then infV else max (atC zs p inc t - c) 0 := by
  unfold eLower
  rcases eC_cases g ht with ⟨h1, h2⟩ | ⟨x, h1, h2, h3, h4⟩
  · rw [h1, h2, if_pos rfl]; rfl
  · rw [h1, h2, if_neg (by unfold infV; omega)]; rfl

theorem lower_settle (g : Good zs p inc) {c : Int} (hc0 : 0 ≤ c) (hc : c ≤ 1073741824) : Settling (encF (eLower c zs p inc)) p (growI zs p inc p) ∧ Tame (eLower c zs p inc) ∧ ∀ t, t ≤ 1000 → Mid (encF (eLower c zs p inc) t) := by
  have h1 := g.p1; have h2 := g.p2
  have hup : ∀ t, eLower c zs p inc t = none → eLower c zs p inc (t + 1) = none := fun t h => by
    unfold eLower at *
    cases h4 : eC zs p inc t with
    | none => rw [eC_up g h4]; rfl
    | some x => rw [h4] at h; cases h
  refine ⟨?_, ⟨hup, ?_⟩, fun t ht => ?_⟩
  · by_cases hi : InfC zs
    · rw [growI_inf hi]
      exact settling_inf fun t ht => by unfold encF eLower; rw [eC_400 g hi (by omega)]; rfl
    have hv : encF (eLower c zs p inc) = maxF (fun t => atC zs p inc t - c) (fun _ => 0) := funext fun t => by unfold encF eLower; rw [eC_fin hi]; rfl
    have hself : p / p * p = p := by rw [Nat.div_self (by omega), Nat.one_mul]
    have ha0 := g.perL hi hself
    obtain ⟨g1, g2⟩ := fin_low g hi h2
    rw [growI_fin hi, hv]
    generalize ((p / p : Nat) : Int) * inc = ca at *
    have ha : Per (fun t => atC zs p inc t - c) 400 p ca := fun t ht => by
      have := ha0 t ht
      show atC zs p inc (t + p) - c = atC zs p inc t - c + ca
      omega
    have hb : Per (fun _ => (0 : Int)) 400 p 0 := fun t ht => by show (0 : Int) = 0 + 0; omega
    have hca : max ca 0 = ca := by omega
    have hch : ∀ t, 400 ≤ t → t < 400 + p → plI (maxF (fun t => atC zs p inc t - c) (fun _ => 0) t) ca = maxF (fun t => atC zs p inc t - c) (fun _ => 0) t + max ca 0 := fun t h1 h2 => by
      have a1 := g2 t (by omega)
      rw [hca]
      exact plI_fin (by show ¬ max (atC zs p inc t - c) 0 = infV; unfold infV; omega) (by unfold infV; omega)
    refine ⟨fun hc => ⟨_, max_found ha hb h1 fun t h3 h4 => by rw [hc t h3 h4, hch t h3 h4]⟩, fun hc hcan => hc fun t h3 h4 => ?_⟩
    obtain ⟨S', hS⟩ := max_late ha hb h1
    rw [hch t h3 h4]
    exact hcan.late hS t h3
  · by_cases hi : InfC zs
    · refine .inr fun t x h => ?_
      unfold eLower at h
      rcases eC_inf g hi t with h4 | ⟨y, h4, _, h6, h7⟩
      · rw [h4] at h; cases h
      · rw [h4] at h; cases h; show ¬ max (y - c) 0 = infV; unfold infV; omega
    · refine .inl ⟨400, by omega, max (atC zs p inc 400 - c) 0, ?_, ?_⟩
      · unfold eLower; rw [eC_fin hi]; rfl
      · have := g.bd hi 400; unfold infV; omega
  · unfold encF; rw [lower_val g (by omega)]
    have := at_mid g ht
    split
    · exact .inl rfl
    · rename_i hne
      unfold Mid infV at *; omega

end

end Go.Proofs.Ytladmpoopfabdaa
