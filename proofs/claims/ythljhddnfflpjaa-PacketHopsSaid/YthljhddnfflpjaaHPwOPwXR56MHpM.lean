/- The operations on values, and when what they make is periodic. Nothing here speaks of the program. By the verifier's side. -/
import Derived.Test.YthljhddnfflpjaaHOrdMPwM
namespace Go.Proofs.Ythljhddnfflpjaa

def oadd : Option Int → Option Int → Option Int
  | some x, some y => some (x + y)
  | _, _ => none
def omin : Option Int → Option Int → Option Int
  | none, y => y
  | some x, none => some x
  | some x, some y => some (min x y)
def omax : Option Int → Option Int → Option Int
  | some x, some y => some (max x y)
  | _, _ => none
def plI (a b : Int) : Int := if a = infV ∨ b = infV then infV else a + b

theorem plI_fin {a b : Int} (ha : ¬ a = infV) (hb : ¬ b = infV) : plI a b = a + b := by unfold plI; rw [if_neg (fun h => h.elim ha hb)]
theorem plI_l (b : Int) : plI infV b = infV := by unfold plI; rw [if_pos (.inl rfl)]
theorem plI_r (a : Int) : plI a infV = infV := by unfold plI; rw [if_pos (.inr rfl)]

theorem oadd_none_l (y : Option Int) : oadd none y = none := by cases y <;> rfl
theorem oadd_none_r (x : Option Int) : oadd x none = none := by cases x <;> rfl
theorem omax_none_l (y : Option Int) : omax none y = none := by cases y <;> rfl
theorem omax_none_r (x : Option Int) : omax x none = none := by cases x <;> rfl
/-- How much a curve grows in L ticks in the long run. -/
noncomputable def growI (zs : List Int) (p : Nat) (inc : Int) (L : Nat) : Int :=
  open Classical in if InfC zs then infV else ((L / p : Nat) : Int) * inc
theorem growI_inf {zs : List Int} (h : InfC zs) (p : Nat) (inc : Int) (L : Nat) : growI zs p inc L = infV := by unfold growI; rw [if_pos h]
theorem growI_fin {zs : List Int} (h : ¬ InfC zs) (p : Nat) (inc : Int) (L : Nat) : growI zs p inc L = ((L / p : Nat) : Int) * inc := by unfold growI; rw [if_neg h]

/-- A number that is infinite or small. -/
def Mid (x : Int) : Prop := x = infV ∨ (0 ≤ x ∧ x ≤ 1125899906842624)

def chk (F : Nat → Int) (L : Nat) (G : Int) : Prop := ∀ t, 400 ≤ t → t < 400 + L → F (t + L) = plI (F t) G
/-- The test of one period tells whether there is a curve. -/
def Settling (F : Nat → Int) (L : Nat) (G : Int) : Prop := (chk F L G → ∃ c, Per F 400 L c) ∧ (¬ chk F L G → ¬ CanBe F)
/-- The test of one period from the tick s on. -/
def chkS (F : Nat → Int) (s L : Nat) (G : Int) : Prop := ∀ t, s ≤ t → t < s + L → F (t + L) = plI (F t) G
def SettlingS (F : Nat → Int) (s L : Nat) (G : Int) : Prop := (chkS F s L G → ∃ c, Per F s L c) ∧ (¬ chkS F s L G → ¬ CanBe F)
theorem settling_of {F : Nat → Int} {L : Nat} {G c : Int} (hp : Per F 400 L c) (hc : chk F L G) : Settling F L G := ⟨fun _ => ⟨c, hp⟩, fun h => absurd hc h⟩

theorem settling_inf {F : Nat → Int} {L : Nat} (h : ∀ t, 400 ≤ t → F t = infV) : Settling F L infV :=
  settling_of (c := 0) (fun t ht => by rw [h t ht, h (t + L) (by omega)]; omega) (fun t h1 _ => by rw [h t h1, h (t + L) (by omega), plI_l])

section
variable {zs ys : List Int} {p q : Nat} {inc jnc : Int}

theorem Good.perL (g : Good zs p inc) (hf : ¬ InfC zs) {L : Nat} (hL : L / p * p = L) : Per (atC zs p inc) 400 L (((L / p : Nat) : Int) * inc) := by
  have h := (g.per hf).mul (L / p)
  rw [hL] at h
  have := g.few
  exact h.mono (by omega)

theorem grow_mid (g : Good zs p inc) {L : Nat} (hL : L ≤ 120) : Mid (growI zs p inc L) := by
  by_cases hi : InfC zs
  · rw [growI_inf hi]; exact .inl rfl
  · rw [growI_fin hi]
    have h0 := g.i0; have h1 := g.i1
    have h2 : L / p ≤ 120 := Nat.le_trans (Nat.div_le_self _ _) hL
    refine .inr ⟨Int.mul_nonneg (Int.natCast_nonneg _) h0, ?_⟩
    have : ((L / p : Nat) : Int) * inc ≤ 120 * 1073741824 := Int.mul_le_mul (by omega) h1 h0 (by omega)
    omega

theorem at_mid (g : Good zs p inc) {t : Nat} (ht : t ≤ 1000) : Mid (atC zs p inc t) := by
  rcases g.seen (t := t) (by omega) with h | ⟨_, h2, h3⟩
  · exact .inl h.2
  · exact .inr ⟨h2, by omega⟩

/-- The value of a curve at a tick that is not late, and the value with infinity. -/
theorem eC_cases (g : Good zs p inc) {t : Nat} (_ht : t ≤ 1048576) : (eC zs p inc t = none ∧ atC zs p inc t = infV) ∨ (∃ x, eC zs p inc t = some x ∧ atC zs p inc t = x ∧ 0 ≤ x ∧ x ≤ 1073741824 * ((t : Int) + 1)) := by
  cases h : eC zs p inc t with
  | none => exact .inl ⟨rfl, (eC_none.1 h).2⟩
  | some x => have := eC_bd g h; exact .inr ⟨x, rfl, this.2.2, this.1, this.2.1⟩

theorem eC_400 (g : Good zs p inc) (hi : InfC zs) {t : Nat} (ht : 399 ≤ t) : eC zs p inc t = none := eC_late g hi (by have := g.few; omega)

/-! ### Sum -/

noncomputable def eSum (zs : List Int) (p : Nat) (inc : Int) (ys : List Int) (q : Nat) (jnc : Int) (t : Nat) : Option Int := oadd (eC zs p inc t) (eC ys q jnc t)
/-- What is asked of a choice between two curves. -/
structure PairOk (ch : Int → Int → Int) (E : Nat → Option Int) (zs : List Int) (p : Nat) (inc : Int) (ys : List Int) (q : Nat) (jnc : Int) : Prop where
  val : ∀ t, t ≤ 1000 → encF E t = ch (atC zs p inc t) (atC ys q jnc t)
  mid : ∀ t, t ≤ 1000 → Mid (encF E t)
  gmid : ∀ L, L ≤ 120 → Mid (ch (growI zs p inc L) (growI ys q jnc L))
  settle : ∀ L, 1 ≤ L → L ≤ 120 → L / p * p = L → L / q * q = L → Settling (encF E) L (ch (growI zs p inc L) (growI ys q jnc L))
  tame : Tame E

theorem sum_mid {x y : Int} (hx : x = infV ∨ (0 ≤ x ∧ x ≤ 1099511627776)) (hy : y = infV ∨ (0 ≤ y ∧ y ≤ 1099511627776)) : Mid (plI x y) := by
  unfold Mid plI
  rcases hx with rfl | hx
  · rw [if_pos (.inl rfl)]; exact .inl rfl
  · rcases hy with rfl | hy
    · rw [if_pos (.inr rfl)]; exact .inl rfl
    · rw [if_neg]
      · exact .inr ⟨by omega, by omega⟩
      · unfold infV; omega

theorem grow_low (g : Good zs p inc) {L : Nat} (hL : L ≤ 120) : growI zs p inc L = infV ∨ (0 ≤ growI zs p inc L ∧ growI zs p inc L ≤ 1099511627776) := by
  by_cases hi : InfC zs
  · exact .inl (growI_inf hi p inc L)
  · rw [growI_fin hi]
    have h0 := g.i0; have h1 := g.i1
    have h2 : L / p ≤ 120 := Nat.le_trans (Nat.div_le_self _ _) hL
    refine .inr ⟨Int.mul_nonneg (Int.natCast_nonneg _) h0, ?_⟩
    have : ((L / p : Nat) : Int) * inc ≤ 120 * 1073741824 := Int.mul_le_mul (by omega) h1 h0 (by omega)
    omega

theorem at_low (g : Good zs p inc) {t : Nat} (ht : t ≤ 1000) : atC zs p inc t = infV ∨ (0 ≤ atC zs p inc t ∧ atC zs p inc t ≤ 1099511627776) := by
  rcases g.seen (t := t) (by omega) with h | ⟨_, h2, h3⟩
  · exact .inl h.2
  · exact .inr ⟨h2, by omega⟩

/-- Of a finite curve the growth and the early values are small. -/
theorem fin_low (g : Good zs p inc) (hf : ¬ InfC zs) {L : Nat} (hL : L ≤ 120) : (0 ≤ ((L / p : Nat) : Int) * inc ∧ ((L / p : Nat) : Int) * inc ≤ 1099511627776) ∧ ∀ t, t ≤ 1000 → 0 ≤ atC zs p inc t ∧ atC zs p inc t ≤ 1099511627776 := by
  refine ⟨?_, fun t ht => ?_⟩
  · have := grow_low g hL
    rw [growI_fin hf] at this
    rcases this with h | h
    · exfalso
      have h0 := g.i0; have h1 := g.i1
      have h2 : L / p ≤ 120 := Nat.le_trans (Nat.div_le_self _ _) hL
      have : ((L / p : Nat) : Int) * inc ≤ 120 * 1073741824 := Int.mul_le_mul (by omega) h1 h0 (by omega)
      unfold infV at h; omega
    · exact h
  · have := g.bd hf t
    omega

theorem sum_val (g : Good zs p inc) (k : Good ys q jnc) {t : Nat} (ht : t ≤ 1048576) : enc (eSum zs p inc ys q jnc t) = plI (atC zs p inc t) (atC ys q jnc t) := by
  unfold eSum
  rcases eC_cases g ht with ⟨h1, h2⟩ | ⟨x, h1, h2, h3, h4⟩
  · rw [h1, h2, plI_l, oadd_none_l]; rfl
  · rcases eC_cases k ht with ⟨k1, k2⟩ | ⟨y, k1, k2, k3, k4⟩
    · rw [k1, k2, plI_r, oadd_none_r]; rfl
    · rw [h1, k1, h2, k2, plI_fin (by unfold infV; omega) (by unfold infV; omega)]; rfl

theorem sum_up (g : Good zs p inc) (k : Good ys q jnc) (t : Nat) (h : eSum zs p inc ys q jnc t = none) : eSum zs p inc ys q jnc (t + 1) = none := by
  unfold eSum at *
  cases h1 : eC zs p inc t with
  | none => rw [eC_up g h1, oadd_none_l]
  | some x =>
    cases h2 : eC ys q jnc t with
    | none => rw [eC_up k h2, oadd_none_r]
    | some y => rw [h1, h2] at h; cases h

/-- Of an infinite sum or maximum the finite values are small. -/
theorem both_some {a b : Option Int} {x : Int} (h : oadd a b = some x) : ∃ y z, a = some y ∧ b = some z ∧ x = y + z := by
  cases a with
  | none => rw [oadd_none_l] at h; cases h
  | some y =>
    cases b with
    | none => cases h
    | some z => exact ⟨y, z, rfl, rfl, by cases h; rfl⟩
/-- In a sum or maximum with an infinite curve the ticks with a finite value are early. -/
theorem early (g : Good zs p inc) (hi : InfC zs) {t : Nat} {y : Int} (h : eC zs p inc t = some y) : t ≤ 399 := by
  refine Nat.le_of_not_lt fun hlt => ?_
  rw [eC_400 g hi (by omega)] at h; cases h

theorem sum_pair (g : Good zs p inc) (k : Good ys q jnc) : PairOk plI (eSum zs p inc ys q jnc) zs p inc ys q jnc := by
  have hmid : ∀ t, t ≤ 1000 → Mid (encF (eSum zs p inc ys q jnc) t) := fun t ht => by
    unfold encF; rw [sum_val g k (by omega)]; exact sum_mid (at_low g ht) (at_low k ht)
  refine ⟨fun t ht => sum_val g k (by omega), hmid, fun L hL => sum_mid (grow_low g hL) (grow_low k hL), fun L h1 hL hp hq => ?_, ?_⟩
  · by_cases hi : InfC zs
    · rw [growI_inf hi, plI_l]
      exact settling_inf fun t ht => by unfold encF eSum; rw [eC_400 g hi (by omega), oadd_none_l]; rfl
    by_cases hj : InfC ys
    · rw [growI_inf hj, plI_r]
      exact settling_inf fun t ht => by unfold encF eSum; rw [eC_400 k hj (by omega), oadd_none_r]; rfl
    have hv : ∀ t, encF (eSum zs p inc ys q jnc) t = atC zs p inc t + atC ys q jnc t := fun t => by unfold encF eSum; rw [eC_fin hi, eC_fin hj]; rfl
    have ha := g.perL hi hp
    have hb := k.perL hj hq
    obtain ⟨g1, g2⟩ := fin_low g hi hL
    obtain ⟨k1, k2⟩ := fin_low k hj hL
    rw [growI_fin hi, growI_fin hj, plI_fin (by unfold infV; omega) (by unfold infV; omega)]
    refine settling_of (c := ((L / p : Nat) : Int) * inc + ((L / q : Nat) : Int) * jnc) (fun t ht => ?_) (fun t h1 h2 => ?_)
    · rw [hv, hv, ha t ht, hb t ht]; omega
    · have a1 := g2 t (by omega)
      have a2 := k2 t (by omega)
      rw [hv, hv, plI_fin (by unfold infV; omega) (by unfold infV; omega), ha t h1, hb t h1]; omega
  · refine ⟨sum_up g k, ?_⟩
    by_cases hi : InfC zs
    · refine .inr fun t x h => ?_
      obtain ⟨y, z, h1, h2, rfl⟩ := both_some h
      have := early g hi h1
      have := eC_bd g h1
      have := eC_bd k h2
      unfold infV; omega
    by_cases hj : InfC ys
    · refine .inr fun t x h => ?_
      obtain ⟨y, z, h1, h2, rfl⟩ := both_some h
      have := early k hj h2
      have := eC_bd g h1
      have := eC_bd k h2
      unfold infV; omega
    have a1 := g.bd hi 400
    have a2 := k.bd hj 400
    exact .inl ⟨400, Nat.le_refl _, atC zs p inc 400 + atC ys q jnc 400, by unfold eSum; rw [eC_fin hi, eC_fin hj]; rfl, by unfold infV; omega⟩

/-! ### One curve -/

def omap (f : Int → Int) : Option Int → Option Int
  | none => none
  | some x => some (f x)

noncomputable def eLater (d : Nat) (zs : List Int) (p : Nat) (inc : Int) (t : Nat) : Option Int := if t < d then some 0 else eC zs p inc (t - d)
noncomputable def eLower (c : Int) (zs : List Int) (p : Nat) (inc : Int) (t : Nat) : Option Int := omap (fun x => max (x - c) 0) (eC zs p inc t)
/-- What is asked of a function that is periodic from a start on. -/
structure FromOk (E : Nat → Option Int) (s P : Nat) : Prop where
  mid : ∀ t, t < s + 2 * P → 0 ≤ encF E t ∧ encF E t ≤ infV
  per : ∃ c, Per (encF E) s P c
  tame : Tame E

theorem later_val (_g : Good zs p inc) {d t : Nat} : enc (eLater d zs p inc t) = if t < d then 0 else atC zs p inc (t - d) := by
  unfold eLater
  by_cases h : t < d
  · rw [if_pos h, if_pos h]; rfl
  · rw [if_neg h, if_neg h, enc_eC]

theorem later_from (g : Good zs p inc) {d : Nat} (hd : d ≤ 401) : FromOk (eLater d zs p inc) (zs.length - p + d) p := by
  have hn := g.few; have h1 := g.p1; have h2 := g.p2; have h3 := g.p3
  refine ⟨fun t ht => ?_, ⟨inc, fun t ht => ?_⟩, fun t h => ?_, ?_⟩
  · unfold encF; rw [later_val g]
    split
    · unfold infV; omega
    · exact at_bd g (by omega)
  · unfold encF; rw [later_val g, later_val g, if_neg (by omega), if_neg (by omega), show t + p - d = t - d + p by omega]
    exact g.perAny _ (by omega)
  · unfold eLater at *
    by_cases hlt : t < d
    · rw [if_pos hlt] at h; cases h
    · rw [if_neg hlt] at h; rw [if_neg (by omega), show t + 1 - d = t - d + 1 by omega]; exact eC_up g h
  · by_cases hi : InfC zs
    · refine .inr fun t x h => ?_
      unfold eLater at h
      by_cases hlt : t < d
      · rw [if_pos hlt] at h; cases h; unfold infV; omega
      · rw [if_neg hlt] at h
        rcases eC_inf g hi (t - d) with h4 | ⟨y, h4, _, h6, h7⟩
        · rw [h4] at h; cases h
        · rw [h4] at h; cases h; unfold infV; omega
    · refine .inl ⟨1000, by omega, atC zs p inc (1000 - d), ?_, ?_⟩
      · unfold eLater; rw [if_neg (by omega), eC_fin hi]
      · have := g.bd hi (1000 - d); unfold infV; omega

theorem lower_val (g : Good zs p inc) {c : Int} {t : Nat} (ht : t ≤ 1048576) : enc (eLower c zs p inc t) = if atC zs p inc t = infV then infV else max (atC zs p inc t - c) 0 := by
  unfold eLower
  rcases eC_cases g ht with ⟨h1, h2⟩ | ⟨x, h1, h2, h3, h4⟩
  · rw [h1, h2, if_pos rfl]; rfl
  · rw [h1, h2, if_neg (by unfold infV; omega)]; rfl

theorem lower_settle (g : Good zs p inc) {c : Int} (hc0 : 0 ≤ c) (hc : c ≤ 1073741824) : Settling (encF (eLower c zs p inc)) p (growI zs p inc p) ∧ Tame (eLower c zs p inc) ∧ ∀ t, t ≤ 1000 → Mid (encF (eLower c zs p inc) t) := by
  have h1 := g.p1; have h2 := g.p2
  have hup : ∀ t, eLower c zs p inc t = none → eLower c zs p inc (t + 1) = none := fun t h => by
    unfold eLower at *
    cases h4 : eC zs p inc t with
    | none => rw [eC_up g h4]; rfl
    | some x => rw [h4] at h; cases h
  refine ⟨?_, ⟨hup, ?_⟩, fun t ht => ?_⟩
  · by_cases hi : InfC zs
    · rw [growI_inf hi]
      exact settling_inf fun t ht => by unfold encF eLower; rw [eC_400 g hi (by omega)]; rfl
    have hv : encF (eLower c zs p inc) = maxF (fun t => atC zs p inc t - c) (fun _ => 0) := funext fun t => by unfold encF eLower; rw [eC_fin hi]; rfl
    have hself : p / p * p = p := by rw [Nat.div_self (by omega), Nat.one_mul]
    have ha0 := g.perL hi hself
    obtain ⟨g1, g2⟩ := fin_low g hi h2
    rw [growI_fin hi, hv]
    generalize ((p / p : Nat) : Int) * inc = ca at *
    have ha : Per (fun t => atC zs p inc t - c) 400 p ca := fun t ht => by
      have := ha0 t ht
      show atC zs p inc (t + p) - c = atC zs p inc t - c + ca
      omega
    have hb : Per (fun _ => (0 : Int)) 400 p 0 := fun t ht => by show (0 : Int) = 0 + 0; omega
    have hca : max ca 0 = ca := by omega
    have hch : ∀ t, 400 ≤ t → t < 400 + p → plI (maxF (fun t => atC zs p inc t - c) (fun _ => 0) t) ca = maxF (fun t => atC zs p inc t - c) (fun _ => 0) t + max ca 0 := fun t h1 h2 => by
      have a1 := g2 t (by omega)
      rw [hca]
      exact plI_fin (by show ¬ max (atC zs p inc t - c) 0 = infV; unfold infV; omega) (by unfold infV; omega)
    refine ⟨fun hc => ⟨_, max_found ha hb h1 fun t h3 h4 => by rw [hc t h3 h4, hch t h3 h4]⟩, fun hc hcan => hc fun t h3 h4 => ?_⟩
    obtain ⟨S', hS⟩ := max_late ha hb h1
    rw [hch t h3 h4]
    exact hcan.late hS t h3
  · by_cases hi : InfC zs
    · refine .inr fun t x h => ?_
      unfold eLower at h
      rcases eC_inf g hi t with h4 | ⟨y, h4, _, h6, h7⟩
      · rw [h4] at h; cases h
      · rw [h4] at h; cases h; show ¬ max (y - c) 0 = infV; unfold infV; omega
    · refine .inl ⟨400, by omega, max (atC zs p inc 400 - c) 0, ?_, ?_⟩
      · unfold eLower; rw [eC_fin hi]; rfl
      · have := g.bd hi 400; unfold infV; omega
  · unfold encF; rw [lower_val g (by omega)]
    have := at_mid g ht
    split
    · exact .inl rfl
    · rename_i hne
      unfold Mid infV at *; omega

end

end Go.Proofs.Ythljhddnfflpjaa

namespace Go.Proofs.Ythljhddnfflpjaa

end Go.Proofs.Ythljhddnfflpjaa

namespace Go.Proofs.Ythljhddnfflpjaa

theorem can_of_inf {E : Nat → Option Int} (hu : ∀ t, E t = none → E (t + 1) = none) (hex : E 399 = none) (hb : ∀ t x, t ≤ 399 → E t = some x → 0 ≤ x ∧ x ≤ 1073741824) (hm : ∀ t x y, E t = some x → E (t + 1) = some y → x ≤ y) : ECan E := by
  obtain ⟨i, hi, hl⟩ := least_ex (P := fun t => E t = none) ⟨399, hex⟩
  have hi9 : i ≤ 399 := Nat.le_of_not_lt fun h => hl 399 h hex
  have hs : ∀ t, t < i → E t = some (encF E t) := fun t ht => by
    unfold encF
    cases h : E t with
    | none => exact absurd h (hl t ht)
    | some x => rfl
  refine can_inf (F := encF E) hi9 hs (fun t ht => ?_) (fun t ht => hb t _ (by omega) (hs t ht)) (fun t ht => hm t _ _ (hs t (by omega)) (hs (t + 1) ht))
  rw [show t = i + (t - i) by omega]
  exact stays hu hi _

section
variable {zs ys : List Int} {p q most : Nat} {inc jnc : Int}

theorem eC_mono (g : Good zs p inc) {t : Nat} {x y : Int} (h : eC zs p inc t = some x) (k : eC zs p inc (t + 1) = some y) : x ≤ y := by
  have h1 := (eC_bd g h).2.2
  have h2 := (eC_bd g k).2.2
  have := g.step t
  omega

/-- Of a curve that was drawn the values up to tick 399 are small. -/
theorem drawn_bd (o : OkCur most zs p inc) {t : Nat} {x : Int} (ht : t ≤ 399) (h : eC zs p inc t = some x) : 0 ≤ x ∧ x ≤ 10000 := by
  have hb := eC_bd o.good h
  by_cases hi : InfC zs
  · rcases eC_inf o.good hi t with h1 | ⟨y, h1, h2, h3, h4⟩
    · rw [h1] at h; cases h
    · rw [h1] at h; cases h
      refine ⟨h3, ?_⟩
      have hlt : t < zs.length := Nat.lt_of_not_le fun hle => by rw [eC_late o.good hi (by omega)] at h1; cases h1
      rcases o.val t hlt with h5 | h5
      · rw [atC_lt hlt] at h2; omega
      · rw [atC_lt hlt, h5] at h2; unfold infV at h2; omega
  · have := o.slow hi t
    rw [hb.2.2] at this
    omega

theorem sum_can (o : OkCur most zs p inc) (k : OkCur most ys q jnc) (hm : most ≤ 9) : ECan (eSum zs p inc ys q jnc) := by
  have g := o.good; have h := k.good
  have e399 : ∀ {zs : List Int} {p : Nat} {inc : Int}, Good zs p inc → InfC zs → eC zs p inc 399 = none := fun g hi => eC_400 g hi (Nat.le_refl _)
  have hbd : ∀ t x, t ≤ 399 → eSum zs p inc ys q jnc t = some x → 0 ≤ x ∧ x ≤ 1073741824 := fun t x ht hx => by
    obtain ⟨y, z, h1, h2, rfl⟩ := both_some hx
    have := drawn_bd o ht h1
    have := drawn_bd k ht h2
    omega
  have hmo : ∀ t x y, eSum zs p inc ys q jnc t = some x → eSum zs p inc ys q jnc (t + 1) = some y → x ≤ y := fun t x y hx hy => by
    obtain ⟨x1, x2, h1, h2, rfl⟩ := both_some hx
    obtain ⟨y1, y2, k1, k2, rfl⟩ := both_some hy
    have := eC_mono g h1 k1
    have := eC_mono h h2 k2
    omega
  by_cases hi : InfC zs
  · exact can_of_inf (sum_up g h) (by unfold eSum; rw [e399 g hi, oadd_none_l]) hbd hmo
  by_cases hj : InfC ys
  · exact can_of_inf (sum_up g h) (by unfold eSum; rw [e399 h hj, oadd_none_r]) hbd hmo
  have a1 := g.p1; have a2 := h.p1; have a3 := o.p8; have a4 := k.p8; have a5 := o.few; have a6 := k.few
  have b1 := o.inc; have b2 := k.inc; have b3 := g.i0; have b4 := h.i0
  have hpq : p * q ≤ 8 * 8 := Nat.mul_le_mul a3 a4
  have hpq1 : 1 ≤ p * q := Nat.mul_pos (by omega) (by omega)
  have ha : Per (atC zs p inc) 16 (p * q) ((q : Int) * inc) := by
    have := (g.per hi).mul q
    rw [Nat.mul_comm] at this
    exact this.mono (by omega)
  have hb : Per (atC ys q jnc) 16 (p * q) ((p : Int) * jnc) := ((h.per hj).mul p).mono (by omega)
  have hc1 : (q : Int) * inc ≤ 8 * 1000 := Int.mul_le_mul (by omega) b1 b3 (by omega)
  have hc2 : (p : Int) * jnc ≤ 8 * 1000 := Int.mul_le_mul (by omega) b2 b4 (by omega)
  refine can_fin (F := fun t => atC zs p inc t + atC ys q jnc t) (s := 16) (p := p * q) (c := (q : Int) * inc + (p : Int) * jnc) (fun t => by unfold eSum; rw [eC_fin hi, eC_fin hj]; rfl) (fun t ht => ?_) hpq1 (by omega) (by omega) ?_ (fun t _ => ?_) ?_ (by omega)
  · show atC zs p inc (t + p * q) + atC ys q jnc (t + p * q) = atC zs p inc t + atC ys q jnc t + _
    rw [ha t ht, hb t ht]; omega
  · show 0 ≤ atC zs p inc 0 + atC ys q jnc 0
    have := (g.bd hi 0).1; have := (h.bd hj 0).1; omega
  · show atC zs p inc t + atC ys q jnc t ≤ atC zs p inc (t + 1) + atC ys q jnc (t + 1)
    have := g.step t; have := h.step t; omega
  · show atC zs p inc (16 + p * q - 1) + atC ys q jnc (16 + p * q - 1) ≤ 1073741824
    have := o.slow hi (16 + p * q - 1); have := k.slow hj (16 + p * q - 1); omega

end

end Go.Proofs.Ythljhddnfflpjaa

namespace Go.Proofs.Ythljhddnfflpjaa

section
variable {zs ys : List Int} {p q most : Nat} {inc jnc k : Int}

theorem drawn_400 (o : OkCur most zs p inc) {t : Nat} {x : Int} (ht : t ≤ 400) (h : eC zs p inc t = some x) : 0 ≤ x ∧ x ≤ 10000 := by
  by_cases h9 : t ≤ 399
  · exact drawn_bd o h9 h
  · by_cases hi : InfC zs
    · rw [eC_400 o.good hi (by omega)] at h; cases h
    · have := o.slow hi t
      have hb := eC_bd o.good h
      rw [hb.2.2] at this
      omega

end

end Go.Proofs.Ythljhddnfflpjaa

namespace Go.Proofs.Ythljhddnfflpjaa

/-- At most, where none is the greatest. -/
def ole (a b : Option Int) : Prop := ∀ y, b = some y → ∃ x, a = some x ∧ x ≤ y

theorem ole_refl (a : Option Int) : ole a a := fun y h => ⟨y, h, Int.le_refl _⟩
/-- Of two curves whose values are so the first is at most the second at every tick. -/
theorem excP_of {zs ys : List Int} {p q : Nat} {inc jnc : Int} (h : ∀ t, ole (eC zs p inc t) (eC ys q jnc t)) : ExcP (dC zs p inc ys q jnc) 0 false := by
  refine .inr ⟨rfl, rfl, fun t => ?_⟩
  cases h2 : eC ys q jnc t with
  | none =>
    have k2 := eC_none.1 h2
    unfold dC
    by_cases h1 : InfC zs ∧ atC zs p inc t = infV
    · rw [if_pos h1, if_pos k2]; omega
    · rw [if_neg h1, if_pos k2]; omega
  | some y =>
    obtain ⟨x, h1, hle⟩ := h t y h2
    have k1 : ¬ (InfC zs ∧ atC zs p inc t = infV) := fun hx => by rw [eC_none.2 hx] at h1; cases h1
    have k2 : ¬ (InfC ys ∧ atC ys q jnc t = infV) := fun hx => by rw [eC_none.2 hx] at h2; cases h2
    have e1 : atC zs p inc t = x := by rw [← enc_eC, h1]; rfl
    have e2 : atC ys q jnc t = y := by rw [← enc_eC, h2]; rfl
    unfold dC
    rw [if_neg k1, if_neg k2, e1, e2]; omega

end Go.Proofs.Ythljhddnfflpjaa

namespace Go.Proofs.Ythljhddnfflpjaa

section
variable {zs : List Int} {p : Nat} {inc : Int}

/-- Short and small. -/
structure Mild (zs : List Int) (p : Nat) (inc : Int) : Prop where
  good : Good zs p inc
  len : zs.length ≤ 100
  bd : ∀ t x, t ≤ 400 → eC zs p inc t = some x → x ≤ 100000

theorem Mild.at (m : Mild zs p inc) (hf : ¬ InfC zs) {t : Nat} (ht : t ≤ 400) : 0 ≤ atC zs p inc t ∧ atC zs p inc t ≤ 100000 := ⟨(m.good.bd hf t).1, m.bd t _ ht (eC_fin hf p inc t)⟩

theorem mild_later (m : Mild zs p inc) {d : Nat} (hd : d ≤ 100) : ECan (eLater d zs p inc) := by
  have g := m.good
  have a1 := g.p1; have a2 := g.p3; have a3 := m.len; have a4 := g.p2
  by_cases hi : InfC zs
  · refine can_of_inf (fun t h => ?_) ?_ (fun t x ht hx => ?_) (fun t x y hx hy => ?_)
    · unfold eLater at *
      by_cases hlt : t < d
      · rw [if_pos hlt] at h; cases h
      · rw [if_neg hlt] at h; rw [if_neg (by omega), show t + 1 - d = t - d + 1 by omega]; exact eC_up g h
    · unfold eLater; rw [if_neg (by omega)]; exact eC_late g hi (by omega)
    · unfold eLater at hx
      by_cases hlt : t < d
      · rw [if_pos hlt] at hx; cases hx; omega
      · rw [if_neg hlt] at hx; have := m.bd _ _ (by omega) hx; have := (eC_bd g hx).1; omega
    · unfold eLater at hx hy
      by_cases h1 : t + 1 < d
      · rw [if_pos (by omega)] at hx; rw [if_pos h1] at hy; cases hx; cases hy; omega
      · rw [if_neg h1] at hy
        by_cases h2 : t < d
        · rw [if_pos h2] at hx; cases hx; exact (eC_bd g hy).1
        · rw [if_neg h2] at hx; rw [show t + 1 - d = t - d + 1 by omega] at hy; exact eC_mono g hx hy
  · refine can_fin (F := fun t => if t < d then 0 else atC zs p inc (t - d)) (s := zs.length - p + d) (p := p) (c := inc) (fun t => ?_) (fun t ht => ?_) a1 a4 (by omega) ?_ (fun t ht => ?_) ?_ g.i1
    · unfold eLater
      by_cases ht : t < d
      · rw [if_pos ht, if_pos ht]
      · rw [if_neg ht, if_neg ht, eC_fin hi]
    · show (if t + p < d then 0 else atC zs p inc (t + p - d)) = (if t < d then 0 else atC zs p inc (t - d)) + inc
      rw [if_neg (by omega), if_neg (by omega), show t + p - d = t - d + p by omega, g.per hi (t - d) (by omega)]
    · show (0 : Int) ≤ if 0 < d then 0 else atC zs p inc (0 - d)
      split
      · omega
      · exact (g.bd hi _).1
    · show (if t < d then 0 else atC zs p inc (t - d)) ≤ if t + 1 < d then 0 else atC zs p inc (t + 1 - d)
      by_cases h1 : t + 1 < d
      · rw [if_pos (by omega), if_pos h1]; omega
      · rw [if_neg h1]
        by_cases h2 : t < d
        · rw [if_pos h2]; exact (g.bd hi _).1
        · rw [if_neg h2, show t + 1 - d = t - d + 1 by omega]; exact g.step _
    · show (if zs.length - p + d + p - 1 < d then 0 else atC zs p inc (zs.length - p + d + p - 1 - d)) ≤ 1073741824
      rw [if_neg (by omega)]
      have := m.at hi (t := zs.length - p + d + p - 1 - d) (by omega)
      omega

end

end Go.Proofs.Ythljhddnfflpjaa

namespace Go.Proofs.Ythljhddnfflpjaa

theorem encF_some {E : Nat → Option Int} {t : Nat} {x : Int} (h : E t = some x) : encF E t = x := by unfold encF; rw [h]; rfl
theorem encF_none {E : Nat → Option Int} {t : Nat} (h : E t = none) : encF E t = infV := by unfold encF; rw [h]; rfl

/-- The normal form's period divides 24 if from some tick on 24 is a period. -/
theorem NormC.div24 {zs zs' : List Int} {p p' : Nat} {inc inc' : Int} (g : Good zs p inc) (h : NormC zs p inc zs' p' inc') {s : Nat} {c : Int} (hp : Per (encF (eC zs p inc)) s 24 c) : 24 % p' = 0 := by
  obtain ⟨_, _, _, _, hn⟩ := (h.eform g).form
  exact (hn.divides hp).1

/-- The least common multiple of two divisors of 24 is one. -/
theorem lcm24 {a b : Nat} (ha : 24 % a = 0) (hb : 24 % b = 0) : 24 % (a / Nat.gcd a b * b) = 0 := by
  have e : a / Nat.gcd a b * b = Nat.lcm a b := by
    rw [Nat.lcm, Nat.mul_div_right_comm (Nat.gcd_dvd_left a b)]
  rw [e]
  exact Nat.mod_eq_zero_of_dvd (Nat.lcm_dvd (Nat.dvd_of_mod_eq_zero ha) (Nat.dvd_of_mod_eq_zero hb))

/-! ## The same from some tick on: minima and maxima -/

/-- In the end periodic by 24 ticks, and infinite or not. -/
def Day (E : Nat → Option Int) : Prop := ∃ s c, Per (encF E) s 24 c ∧ ((∀ t, s ≤ t → E t = none) ∨ ∀ t, s ≤ t → E t = some (encF E t))

theorem Day.per {E : Nat → Option Int} (h : Day E) : ∃ s c, Per (encF E) s 24 c := by obtain ⟨s, c, h, _⟩ := h; exact ⟨s, c, h⟩

theorem Day.of {E : Nat → Option Int} (h : Day E) {zs : List Int} {p : Nat} {inc : Int} (he : ∀ t, eC zs p inc t = E t) : Day (eC zs p inc) := by rw [show eC zs p inc = E from funext he]; exact h

theorem day_none {E : Nat → Option Int} {s : Nat} (h : ∀ t, s ≤ t → E t = none) : Day E :=
  ⟨s, 0, fun t ht => by rw [encF_none (h t ht), encF_none (h (t + 24) (by omega))]; omega, .inl h⟩

theorem day_some {E : Nat → Option Int} {F : Nat → Int} {s : Nat} {c : Int} (h : ∀ t, s ≤ t → E t = some (F t)) (hp : Per F s 24 c) : Day E :=
  ⟨s, c, fun t ht => by rw [encF_some (h t ht), encF_some (h (t + 24) (by omega))]; exact hp t ht, .inr fun t ht => by rw [encF_some (h t ht)]; exact h t ht⟩

theorem Day.min {E E' : Nat → Option Int} (h : Day E) (k : Day E') : Day (fun t => omin (E t) (E' t)) := by
  obtain ⟨s, c, hp, hn | hs⟩ := h
  · obtain ⟨s', c', kp, kn | ks⟩ := k
    · exact day_none (s := max s s') fun t ht => by show omin (E t) (E' t) = none; rw [hn t (by omega), kn t (by omega)]; rfl
    · exact day_some (s := max s s') (F := encF E') (fun t ht => by show omin (E t) (E' t) = _; rw [hn t (by omega), ks t (by omega)]; rfl) (kp.mono (by omega))
  · obtain ⟨s', c', kp, kn | ks⟩ := k
    · exact day_some (s := max s s') (F := encF E) (fun t ht => by show omin (E t) (E' t) = _; rw [hs t (by omega), kn t (by omega)]; rfl) (hp.mono (by omega))
    · obtain ⟨S, hS⟩ := min_late (hp.mono (show s ≤ s + s' by omega)) (kp.mono (show s' ≤ s + s' by omega)) (show 1 ≤ 24 by omega)
      exact day_some (s := s + s' + S) (F := minF (encF E) (encF E')) (fun t ht => by
        show omin (E t) (E' t) = some (Min.min (encF E t) (encF E' t))
        have e1 := hs t (by omega)
        have e2 := ks t (by omega)
        rw [e1, e2]; rfl) (hS.mono (by omega))

theorem Day.max {E E' : Nat → Option Int} (h : Day E) (k : Day E') : Day (fun t => omax (E t) (E' t)) := by
  obtain ⟨s, c, hp, hn | hs⟩ := h
  · exact day_none (s := s) fun t ht => by show omax (E t) (E' t) = none; rw [hn t (by omega), omax_none_l]
  · obtain ⟨s', c', kp, kn | ks⟩ := k
    · exact day_none (s := s') fun t ht => by show omax (E t) (E' t) = none; rw [kn t (by omega), omax_none_r]
    · obtain ⟨S, hS⟩ := max_late (hp.mono (show s ≤ s + s' by omega)) (kp.mono (show s' ≤ s + s' by omega)) (show 1 ≤ 24 by omega)
      exact day_some (s := s + s' + S) (F := maxF (encF E) (encF E')) (fun t ht => by
        show omax (E t) (E' t) = some (Max.max (encF E t) (encF E' t))
        have e1 := hs t (by omega)
        have e2 := ks t (by omega)
        rw [e1, e2]; rfl) (hS.mono (by omega))

theorem Day.sum {E E' : Nat → Option Int} (h : Day E) (k : Day E') : Day (fun t => oadd (E t) (E' t)) := by
  obtain ⟨s, c, hp, hn | hs⟩ := h
  · exact day_none (s := s) fun t ht => by show oadd (E t) (E' t) = none; rw [hn t ht, oadd_none_l]
  · obtain ⟨s', c', kp, kn | ks⟩ := k
    · exact day_none (s := s') fun t ht => by show oadd (E t) (E' t) = none; rw [kn t ht, oadd_none_r]
    · refine day_some (s := s + s') (F := fun t => encF E t + encF E' t) (c := c + c') (fun t ht => ?_) (fun t ht => ?_)
      · show oadd (E t) (E' t) = _
        have e1 := hs t (by omega)
        have e2 := ks t (by omega)
        rw [e1, e2]; rfl
      · have := hp t (by omega)
        have := kp t (by omega)
        show encF E (t + 24) + encF E' (t + 24) = encF E t + encF E' t + (c + c')
        omega

/-- The periods of the normal forms of two such curves have a multiple of at most 24. -/
theorem day_lcm {z1 z2 : List Int} {p1 p2 : Nat} {i1 i2 : Int} (g1 : Good z1 p1 i1) (g2 : Good z2 p2 i2) (h1 : Day (eC z1 p1 i1)) (h2 : Day (eC z2 p2 i2)) {y1 y2 : List Int} {q1 q2 : Nat} {j1 j2 : Int} (n1 : NormC z1 p1 i1 y1 q1 j1) (n2 : NormC z2 p2 i2 y2 q2 j2) : q1 / Nat.gcd q1 q2 * q2 ≤ 24 := by
  obtain ⟨s1, c1, k1⟩ := h1.per
  obtain ⟨s2, c2, k2⟩ := h2.per
  have a := n1.div24 g1 k1
  have b := n2.div24 g2 k2
  have := lcm24 a b
  exact Nat.le_of_dvd (by omega) (Nat.dvd_of_mod_eq_zero this)

/-! ## What a reduction needs -/

/-! ## Greater curves have greater results -/

end Go.Proofs.Ythljhddnfflpjaa

namespace Go.Proofs.Ythljhddnfflpjaa

/-! ## Sums, minima and maxima distribute -/

end Go.Proofs.Ythljhddnfflpjaa

namespace Go.Proofs.Ythljhddnfflpjaa
set_option linter.unusedVariables false

/-! ## The greatest so far -/

section
variable {D D' : Nat → Option Int}
end

section
variable {d : Nat → Int} {S L : Nat} {δ : Int}
end

/-! ## The least from a tick on -/

section
variable {D D' : Nat → Option Int}
end

/-! ## The differences of two curves -/

section
variable {zs ys : List Int} {p q : Nat} {inc jnc : Int}
/-! ### The greatest so far -/

/-! ### The least from a tick on -/

end

end Go.Proofs.Ythljhddnfflpjaa

namespace Go.Proofs.Ythljhddnfflpjaa

/-- A function that is given like a curve, all finite. -/
structure RawC (zs : List Int) (p : Nat) (inc : Int) : Prop where
  few : zs.length ≤ 8192
  p1 : 1 ≤ p
  p2 : p ≤ 1024
  p3 : p ≤ zs.length
  i0 : 0 ≤ inc
  i1 : inc ≤ 35184372088832
  val : ∀ i, i < zs.length → 0 ≤ zs.getD i 0 ∧ zs.getD i 0 ≤ 2251799813685248

theorem RawC.fin {zs : List Int} {p : Nat} {inc : Int} (h : RawC zs p inc) : ¬ zs.getD (zs.length - 1) 0 = infV := by
  have h1 := h.p1; have h3 := h.p3
  have := h.val (zs.length - 1) (by omega)
  unfold infV; omega
theorem RawC.small {zs : List Int} {p : Nat} {inc : Int} (h : RawC zs p inc) {i : Nat} (hi : i < zs.length) : 0 ≤ zs.getD i 0 ∧ zs.getD i 0 ≤ 2251799813685248 := h.val i hi
theorem RawC.per {zs : List Int} {p : Nat} {inc : Int} (h : RawC zs p inc) : Per (atC zs p inc) (zs.length - p) p inc := atC_per h.p1 h.p3 h.fin
theorem RawC.bd {zs : List Int} {p : Nat} {inc : Int} (h : RawC zs p inc) (t : Nat) : 0 ≤ atC zs p inc t ∧ atC zs p inc t ≤ 2251799813685248 + 35184372088832 * ((t : Int) + 1) := by
  have h0 := h.i0
  have h1 := h.i1
  induction t using Nat.strongRecOn with
  | ind t ih =>
    have hp := h.p3; have hp1 := h.p1
    by_cases hlt : t < zs.length
    · rw [atC_lt hlt]; have := h.small hlt; omega
    · have e := h.per (t - p) (by omega)
      have := ih (t - p) (by omega)
      rw [show t - p + p = t by omega] at e
      omega

theorem raw_tame {zs : List Int} {p : Nat} {inc : Int} {E : Nat → Option Int} (h : RawC zs p inc) (hE : ∀ t, E t = some (atC zs p inc t)) : Tame E :=
  ⟨fun t hx => (by rw [hE] at hx; cases hx), .inl ⟨400, Nat.le_refl _, _, hE 400, by have := h.bd 400; unfold infV; omega⟩⟩

theorem raw_form {zs : List Int} {p : Nat} {inc : Int} {E : Nat → Option Int} (h : RawC zs p inc) (hE : ∀ t, E t = some (atC zs p inc t)) {s r : Nat} {c : Int} (hn : NormOf (atC zs p inc) s r c) :
    (Good (firsts (atC zs p inc) (s + r)) r c → EForm (firsts (atC zs p inc) (s + r)) r c E) ∧ (¬ Good (firsts (atC zs p inc) (s + r)) r c → ¬ ECan E) := by
  have hF : encF E = atC zs p inc := funext fun t => by unfold encF; rw [hE]; rfl
  refine ⟨fun g => eform_of (raw_tame h hE) (by rw [hF]; exact form_of hn g), fun hno hc => no_form hn hno ?_⟩
  have := hc.can
  rwa [hF] at this

theorem raw_inf {zs : List Int} {i : Nat} {E : Nat → Option Int} (hi : i < zs.length) (hz : zs.getD i 0 = infV) (hj : ∀ j, j < i → ¬ zs.getD j 0 = infV) (hE : ∀ t, E t = if t < i then some (zs.getD t 0) else none) :
    (Good (zs.take (i + 1)) 1 0 → EForm (zs.take (i + 1)) 1 0 E) ∧ (¬ Good (zs.take (i + 1)) 1 0 → ¬ ECan E) := by
  have hl : (zs.take (i + 1)).length = i + 1 := by rw [List.length_take]; omega
  have hlast : InfC (zs.take (i + 1)) := by rw [infC_iff, hl, Nat.add_sub_cancel, getD_take (by omega)]; exact hz
  constructor
  · intro g
    have hN : NormC (zs.take (i + 1)) 1 0 (zs.take (i + 1)) 1 0 := .inr ⟨i, by omega, by rw [getD_take (by omega)]; exact hz, fun j h => by rw [getD_take (by omega)]; exact hj j h, by rw [List.take_take, Nat.min_self], rfl, rfl⟩
    have hf := hN.eform g
    rw [show eC (zs.take (i + 1)) 1 0 = E from funext fun t => ?_] at hf
    · exact hf
    rw [hE]
    by_cases ht : t < i
    · rw [if_pos ht]
      unfold eC
      have e : atC (zs.take (i + 1)) 1 0 t = zs.getD t 0 := by rw [atC_lt (by omega), getD_take (by omega)]
      rw [e, if_neg (fun hx => hj t ht hx.2)]
    · rw [if_neg ht]
      exact eC_late g hlast (by omega)
  · rintro hno ⟨xs, q, j, g, he⟩
    have h0 : eC xs q j i = none := by rw [he, hE, if_neg (Nat.lt_irrefl _)]
    obtain ⟨hx, ha⟩ := eC_none.1 h0
    have hlow : ∀ t, t < i → atC xs q j t = zs.getD t 0 := fun t ht => by
      have h1 : eC xs q j t = some (zs.getD t 0) := by rw [he, hE, if_pos ht]
      exact (eC_bd g h1).2.2
    have h1 := g.p1; have h3 := g.p3
    have hlen : i < xs.length := by
      refine Nat.lt_of_not_le fun hle => ?_
      have e := hlow (xs.length - 1) (by omega)
      rw [atC_inf hx (Nat.le_refl _) (by omega)] at e
      exact hj _ (by omega) e.symm
    have htk : xs.take (i + 1) = zs.take (i + 1) := list_ext_getD (by rw [hl, List.length_take]; omega) fun k hk => by
      rw [List.length_take] at hk
      rw [getD_take (by omega), getD_take (by omega)]
      by_cases hki : k < i
      · rw [← hlow k hki, atC_lt (by omega)]
      · rw [show k = i by omega, hz, ← ha, atC_lt hlen]
    have hN : NormC xs q j (zs.take (i + 1)) 1 0 := .inr ⟨i, hlen, by rw [← atC_lt (p := q) (inc := j) hlen]; exact ha, fun k hk => by rw [← atC_lt (p := q) (inc := j) (show k < xs.length by omega), hlow k hk]; exact hj k hk, htk.symm, rfl, rfl⟩
    exact hno (hN.good g)

/-- What is handed to Made: the values up to a tick from which on they grow in each period, or up to an infinite one. -/
def RawE (zs : List Int) (p : Nat) (inc : Int) (E : Nat → Option Int) : Prop :=
  (RawC zs p inc ∧ ∀ t, E t = some (atC zs p inc t)) ∨
  (zs.length ≤ 8192 ∧ ∃ i, i < zs.length ∧ zs.getD i 0 = infV ∧ (∀ j, j < i → ¬ zs.getD j 0 = infV) ∧ ∀ t, E t = if t < i then some (zs.getD t 0) else none)

theorem rawE_of {E : Nat → Option Int} {N L : Nat} {inc : Int} (hN : N ≤ 8192) (h1 : 1 ≤ L) (h2 : L ≤ 1024) (h3 : L ≤ N) (hi : 0 ≤ inc ∧ inc ≤ 35184372088832)
    (up : ∀ t, E t = none → E (t + 1) = none) (bd : ∀ t, t < N → ∀ x, E t = some x → 0 ≤ x ∧ x ≤ 2251799813685248)
    (fin : (∀ t, ¬ E t = none) → Per (encF E) (N - L) L inc) (inf : (∃ t, E t = none) → ∃ t, t < N ∧ E t = none) : RawE (firsts (encF E) N) L inc E := by
  have hl := firsts_length (encF E) N
  by_cases h : ∃ t, E t = none
  · obtain ⟨i, hz, hj⟩ := least_ex h
    obtain ⟨u, hu, hu0⟩ := inf h
    have hiN : i < N := by
      refine Nat.lt_of_not_le fun hle => ?_
      exact hj u (by omega) hu0
    refine .inr ⟨by omega, i, by omega, ?_, fun j hji hx => ?_, fun t => ?_⟩
    · rw [firsts_getD _ _ _ hiN]; unfold encF; rw [hz]; rfl
    · rw [firsts_getD _ _ _ (by omega)] at hx
      cases hE : E j with
      | none => exact hj j hji hE
      | some x => unfold encF at hx; rw [hE] at hx; have := bd j (by omega) x hE; change x = infV at hx; unfold infV at hx; omega
    · by_cases ht : t < i
      · rw [if_pos ht, firsts_getD _ _ _ (by omega)]
        cases hE : E t with
        | none => exact absurd hE (hj t ht)
        | some x => unfold encF; rw [hE]; rfl
      · rw [if_neg ht]
        have := stays up hz (t - i)
        rwa [show i + (t - i) = t by omega] at this
  · have hs : ∀ t, ¬ E t = none := fun t hx => h ⟨t, hx⟩
    have hv : ∀ t, E t = some (encF E t) := fun t => by
      cases hE : E t with
      | none => exact absurd hE (hs t)
      | some x => unfold encF; rw [hE]; rfl
    have hr : RawC (firsts (encF E) N) L inc := ⟨by omega, h1, h2, by omega, hi.1, hi.2, fun i hi => by
      rw [hl] at hi
      rw [firsts_getD _ _ _ hi]
      exact bd i hi _ (hv i)⟩
    refine .inl ⟨hr, fun t => ?_⟩
    rw [hv]
    congr 1
    have hp := hr.per
    rw [hl] at hp
    exact ((fin hs).ext hp h1 fun t ht => by rw [atC_lt (by omega), firsts_getD _ _ _ (by omega)]) t


section
variable {zs ys : List Int} {p q : Nat} {inc jnc : Int}

theorem inf_none (g : Good zs p inc) (h : ∃ t, eC zs p inc t = none) : eC zs p inc (zs.length - 1) = none := by
  obtain ⟨t, ht⟩ := h
  exact eC_late g (eC_none.1 ht).1 (Nat.le_refl _)

theorem fin_of (g : Good zs p inc) (h : ∀ t, ¬ eC zs p inc t = none) : ¬ InfC zs := fun hi => h _ (eC_late g hi (Nat.le_refl _))

end

end Go.Proofs.Ythljhddnfflpjaa

namespace Go.Proofs.Ythljhddnfflpjaa

section
variable {zs ys : List Int} {p q : Nat} {inc jnc : Int}

/-! ## Sums -/

theorem enc_sum (h1 : ¬ InfC zs) (h2 : ¬ InfC ys) (t : Nat) : encF (eSum zs p inc ys q jnc) t = atC zs p inc t + atC ys q jnc t := by
  refine encF_some ?_
  unfold eSum; rw [eC_fin h1, eC_fin h2]; rfl

theorem grow_bd (g : Good zs p inc) {L : Nat} (hL2 : L ≤ 120) : 0 ≤ inc * ((L / p : Nat) : Int) ∧ inc * ((L / p : Nat) : Int) ≤ 128849018880 := by
  have h0 := g.i0; have h1 := g.i1
  have h2 : L / p ≤ 120 := Nat.le_trans (Nat.div_le_self _ _) hL2
  generalize L / p = m at h2 ⊢
  have : inc * (m : Int) ≤ 1073741824 * 120 := Int.mul_le_mul h1 (by omega) (by omega) (by omega)
  exact ⟨Int.mul_nonneg h0 (by omega), by omega⟩

theorem Good.perM (g : Good zs p inc) (hf : ¬ InfC zs) {L m : Nat} (hL : L / p * p = L) (hm : zs.length - p ≤ m) : Per (atC zs p inc) m L (inc * ((L / p : Nat) : Int)) := by
  have h := (g.per hf).mul (L / p)
  rw [hL, Int.mul_comm] at h
  exact h.mono hm

theorem sum_raw (g : Good zs p inc) (k : Good ys q jnc) {L : Nat} (hL : Lcm p q L) (hL2 : L ≤ 120) {m : Nat} (h1 : zs.length ≤ m) (h2 : ys.length ≤ m) (hm : m ≤ 400) :
    RawE (firsts (encF (eSum zs p inc ys q jnc)) (m + L)) L (inc * ((L / p : Nat) : Int) + jnc * ((L / q : Nat) : Int)) (eSum zs p inc ys q jnc) := by
  have b1 := grow_bd g hL2
  have b2 := grow_bd k hL2
  have a1 := hL.one
  have g1 := g.p1; have g3 := g.p3; have k1 := k.p1; have k3 := k.p3
  have no1 : ∀ t, eC zs p inc t = none → eSum zs p inc ys q jnc t = none := fun t h => by unfold eSum; rw [h, oadd_none_l]
  have no2 : ∀ t, eC ys q jnc t = none → eSum zs p inc ys q jnc t = none := fun t h => by unfold eSum; rw [h, oadd_none_r]
  refine rawE_of (by omega) a1 (by omega) (by omega) (by omega) (sum_up g k) (fun t ht x hx => ?_) (fun hs => ?_) (fun h => ?_)
  · obtain ⟨y, z, hy, hz, rfl⟩ := both_some hx
    have c1 := eC_bd g hy
    have c2 := eC_bd k hz
    omega
  · have f1 : ¬ InfC zs := fin_of g fun t h => hs t (no1 t h)
    have f2 : ¬ InfC ys := fin_of k fun t h => hs t (no2 t h)
    intro t ht
    have e1 := g.perM f1 hL.dp (m := m) (by omega) t (by omega)
    have e2 := k.perM f2 hL.dq (m := m) (by omega) t (by omega)
    rw [enc_sum f1 f2, enc_sum f1 f2]
    omega
  · obtain ⟨t, ht⟩ := h
    cases hz : eC zs p inc t with
    | none => exact ⟨zs.length - 1, by omega, no1 _ (inf_none g ⟨t, hz⟩)⟩
    | some y =>
      cases hy : eC ys q jnc t with
      | none => exact ⟨ys.length - 1, by omega, no2 _ (inf_none k ⟨t, hy⟩)⟩
      | some z => unfold eSum at ht; rw [hz, hy] at ht; cases ht

/-! ## The lesser and the greater of two -/

/-- Where a curve is below one that grows less, the lesser and the greater one of them are no curves. -/
theorem over {a b : Nat → Int} {L : Nat} {ca cb : Int} (ha : Per a 400 L ca) (hb : Per b 400 L cb) (hL : 1 ≤ L) {u : Nat} (hu : 400 ≤ u) (hne : a u < b u) (hlt : cb < ca) : ¬ CanBe (minF a b) ∧ ¬ CanBe (maxF a b) := by
  have hd : Per (fun t => b t - a t) 400 L (cb - ca) := fun t ht => by have := ha t ht; have := hb t ht; show b (t + L) - a (t + L) = b t - a t + (cb - ca); omega
  obtain ⟨S, _, hf⟩ := falls hd hL (by omega)
  have hS : S ≤ S * L := Nat.le_mul_of_pos_right _ hL
  have e1 := ha.mul S u hu
  have e2 := hb.mul S u hu
  have e3 : b (u + S * L) - a (u + S * L) ≤ 0 := hf (u + S * L) (by omega)
  constructor
  · intro hc
    obtain ⟨S', hm⟩ := min_late ha hb hL
    have h := (hc.late hm).mul S u hu
    rw [show min ca cb = cb by omega] at h
    unfold minF at h
    omega
  · intro hc
    obtain ⟨S', hm⟩ := max_late ha hb hL
    have h := (hc.late hm).mul S u hu
    rw [show max ca cb = ca by omega] at h
    unfold maxF at h
    omega

/-! ## One curve -/

theorem omap_no {f : Int → Int} {x : Option Int} (h : omap f x = none) : x = none := by cases x with
  | none => rfl
  | some y => cases h
theorem omap_some {f : Int → Int} {x : Option Int} {y : Int} (h : omap f x = some y) : ∃ z, x = some z ∧ y = f z := by cases x with
  | none => cases h
  | some z => cases h; exact ⟨z, rfl, rfl⟩

theorem lower_raw (g : Good zs p inc) {c : Int} (hc0 : 0 ≤ c) (hd : ¬ InfC zs → 0 < inc → c ≤ atC zs p inc 400) :
    RawE (firsts (encF (eLower c zs p inc)) (400 + p)) p inc (eLower c zs p inc) := by
  have g1 := g.p1; have g2 := g.p2; have g3 := g.p3; have gf := g.few; have h0 := g.i0; have h1 := g.i1
  refine rawE_of (by omega) g1 (by omega) (by omega) (by omega) (fun t h => ?_) (fun t ht x hx => ?_) (fun hs => ?_) (fun h => ?_)
  · unfold eLower at h ⊢; rw [eC_up g (omap_no h)]; rfl
  · obtain ⟨z, hz, rfl⟩ := omap_some hx
    have := eC_bd g hz
    omega
  · rw [Nat.add_sub_cancel]
    have f1 : ¬ InfC zs := fin_of g fun t h => hs t (by unfold eLower; rw [h]; rfl)
    have e : ∀ t, encF (eLower c zs p inc) t = max (atC zs p inc t - c) 0 := fun t => encF_some (by unfold eLower; rw [eC_fin f1]; rfl)
    intro t ht
    rw [e, e]
    have hp := (g.per f1) t (by omega)
    rw [hp]
    by_cases hi : inc = 0
    · rw [hi]; omega
    · have hup := g.up (t - 400) 400
      rw [show 400 + (t - 400) = t by omega] at hup
      have := hd f1 (by omega)
      omega
  · obtain ⟨t, ht⟩ := h
    exact ⟨zs.length - 1, by omega, by unfold eLower at ht ⊢; rw [inf_none g ⟨t, omap_no ht⟩]; rfl⟩

theorem lower_no (g : Good zs p inc) {c : Int} (f1 : ¬ InfC zs) (hi : 0 < inc) (h : atC zs p inc 400 < c) : ¬ ECan (eLower c zs p inc) := by
  have gf := g.few
  have hp : Per (fun t => atC zs p inc t - c) 400 p inc := fun t ht => by have := (g.per f1) t (by omega); show atC zs p inc (t + p) - c = atC zs p inc t - c + inc; omega
  have h0 : Per (fun _ => (0 : Int)) 400 p 0 := fun t ht => rfl
  have hn := (over hp h0 g.p1 (Nat.le_refl _) (show atC zs p inc 400 - c < 0 by omega) hi).2
  have e : encF (eLower c zs p inc) = maxF (fun t => atC zs p inc t - c) (fun _ => 0) := funext fun t => encF_some (by unfold eLower; rw [eC_fin f1]; rfl)
  intro hc
  have := hc.can
  rw [e] at this
  exact hn this

theorem later_raw (g : Good zs p inc) {d : Nat} (hd : d ≤ 800) : RawE (List.replicate d 0 ++ zs) p inc (eLater d zs p inc) := by
  have g1 := g.p1; have g2 := g.p2; have g3 := g.p3; have gf := g.few; have h0 := g.i0; have h1 := g.i1
  have hl : (List.replicate d (0 : Int) ++ zs) = firsts (encF (eLater d zs p inc)) (zs.length + d) := list_ext_getD (by rw [firsts_length, List.length_append, List.length_replicate]; omega) fun i hi => by
    rw [List.length_append, List.length_replicate] at hi
    rw [firsts_getD _ _ _ (by omega)]
    unfold encF; rw [later_val g]
    by_cases h : i < d
    · rw [if_pos h, List.getD_eq_getElem?_getD, List.getElem?_append_left (by rw [List.length_replicate]; exact h)]
      simp [h]
    · rw [if_neg h, List.getD_eq_getElem?_getD, List.getElem?_append_right (by rw [List.length_replicate]; omega), List.length_replicate, atC_lt (by omega), List.getD_eq_getElem?_getD]
  rw [hl]
  refine rawE_of (by omega) g1 (by omega) (by omega) (by omega) (fun t h => ?_) (fun t ht x hx => ?_) (fun hs => ?_) (fun h => ?_)
  · unfold eLater at h ⊢
    by_cases h0 : t < d
    · rw [if_pos h0] at h; cases h
    · rw [if_neg h0] at h
      rw [if_neg (by omega), show t + 1 - d = t - d + 1 by omega, eC_up g h]
  · unfold eLater at hx
    by_cases h0 : t < d
    · rw [if_pos h0] at hx; cases hx; omega
    · rw [if_neg h0] at hx
      have := eC_bd g hx
      omega
  · have f1 : ¬ InfC zs := fun hi => hs (d + 400) (by unfold eLater; rw [if_neg (by omega), eC_400 g hi (by omega)])
    have e : ∀ t, d ≤ t → encF (eLater d zs p inc) t = atC zs p inc (t - d) := fun t ht => encF_some (by unfold eLater; rw [if_neg (by omega), eC_fin f1])
    intro t ht
    rw [e t (by omega), e (t + p) (by omega), show t + p - d = t - d + p by omega]
    exact (g.per f1) (t - d) (by omega)
  · obtain ⟨t, ht⟩ := h
    unfold eLater at ht
    by_cases h0 : t < d
    · rw [if_pos h0] at ht; cases ht
    · rw [if_neg h0] at ht
      exact ⟨zs.length - 1 + d, by omega, by unfold eLater; rw [if_neg (by omega)]; exact eC_late g (eC_none.1 ht).1 (by omega)⟩

end

end Go.Proofs.Ythljhddnfflpjaa

namespace Go.Proofs.Ythljhddnfflpjaa
set_option linter.unusedSimpArgs false
set_option linter.unusedVariables false

/-- A curve that is 0 at first, without its first tick. -/
theorem can_tail {E : Nat → Option Int} (h : ECan E) (h0 : E 0 = some 0) : ECan (fun t => E (t + 1)) := by
  obtain ⟨zs, p, inc, g, he⟩ := h
  have g1 := g.p1; have g2 := g.p2; have g3 := g.p3; have gf := g.few; have gi := g.i1; have gi0 := g.i0
  by_cases hi : InfC zs
  · obtain ⟨i, hz, hj⟩ := least_ex (P := fun t => eC zs p inc t = none) ⟨zs.length - 1, eC_late g hi (Nat.le_refl _)⟩
    have hil : i ≤ zs.length - 1 := Nat.le_of_not_lt fun hlt => hj _ hlt (eC_late g hi (Nat.le_refl _))
    have hi0 : i ≠ 0 := fun h => by rw [h, he, h0] at hz; cases hz
    have hv : ∀ t, t < i → eC zs p inc t = some (atC zs p inc t) := fun t ht => by
      rcases eC_inf g hi t with h2 | ⟨x, h2, h3, _⟩
      · exact absurd h2 (hj t ht)
      · rw [h2, h3]
    refine can_inf (F := fun t => atC zs p inc (t + 1)) (i := i - 1) (by omega) (fun t ht => ?_) (fun t ht => ?_) (fun t ht => ?_) (fun t ht => g.step _)
    · show E (t + 1) = _
      rw [← he, hv _ (by omega)]
    · show E (t + 1) = none
      rw [← he]
      have := stays (E := eC zs p inc) (fun t h => eC_up g h) hz (t + 1 - i)
      rwa [show i + (t + 1 - i) = t + 1 by omega] at this
    · rcases eC_inf g hi (t + 1) with h2 | ⟨x, h2, h3, h4, h5⟩
      · exact absurd h2 (hj _ (by omega))
      · show 0 ≤ atC zs p inc (t + 1) ∧ atC zs p inc (t + 1) ≤ 1073741824
        rw [h3]; exact ⟨h4, h5⟩
  · have hp := g.per hi
    have hE : ∀ t, E t = some (atC zs p inc t) := fun t => by rw [← he, eC_fin hi]
    have ha0 : atC zs p inc 0 = 0 := by have := hE 0; rw [h0] at this; injection this with this; exact this.symm
    refine can_fin (F := fun t => atC zs p inc (t + 1)) (s := zs.length - p - 1) (p := p) (c := inc) (fun t => hE (t + 1)) (fun t ht => ?_) g1 g2 (by omega) (g.bd hi 1).1 (fun t ht => g.step _) ?_ gi
    · show atC zs p inc (t + p + 1) = atC zs p inc (t + 1) + inc
      rw [show t + p + 1 = t + 1 + p by omega]
      exact hp (t + 1) (by omega)
    · show atC zs p inc (zs.length - p - 1 + p - 1 + 1) ≤ 1073741824
      by_cases hl : zs.length = p
      · rw [show zs.length - p - 1 + p - 1 + 1 = 0 + p by omega, hp 0 (by omega), ha0]
        omega
      · rw [show zs.length - p - 1 + p - 1 + 1 = zs.length - 1 by omega, atC_lt (by omega)]
        exact (g.small hi (by omega)).2

/-- The hop curve, for packets of at most c + 1 bytes. -/
noncomputable def eHop (c : Int) (zs : List Int) (p : Nat) (inc : Int) (t : Nat) : Option Int := if t = 0 then some 0 else eLower c zs p inc (t - 1)
section
variable {zs : List Int} {p : Nat} {inc c : Int}
theorem eHop_succ (t : Nat) : eHop c zs p inc (t + 1) = eLower c zs p inc t := by unfold eHop; rw [if_neg (by omega)]; rfl
theorem hop_can (h : ECan (eHop c zs p inc)) : ECan (eLower c zs p inc) := by
  have := can_tail h rfl
  rwa [show (fun t => eHop c zs p inc (t + 1)) = eLower c zs p inc from funext fun t => eHop_succ t] at this
/-- One tick later than whatever curve has the lowered values. -/
theorem hop_later {ys : List Int} {q : Nat} {j : Int} (he : ∀ t, eC ys q j t = eLower c zs p inc t) : eLater 1 ys q j = eHop c zs p inc := funext fun t => by
  unfold eLater eHop
  by_cases h : t = 0
  · rw [if_pos (by omega), if_pos h]
  · rw [if_neg (by omega), if_neg h, he]
/-- Lower than whatever curve is one tick later. -/
theorem hop_lower {ys : List Int} {q : Nat} {j : Int} (hc : 0 ≤ c) (he : ∀ t, eC ys q j t = eLater 1 zs p inc t) : eLower c ys q j = eHop c zs p inc := funext fun t => by
  unfold eLower
  rw [he]
  unfold eLater eHop
  by_cases h : t = 0
  · rw [if_pos (by omega), if_pos h]
    show some (max (0 - c) 0) = some 0
    rw [show max (0 - c) 0 = 0 by omega]
  · rw [if_neg (by omega), if_neg h]
    rfl
end
end Go.Proofs.Ythljhddnfflpjaa
