/- The mathematics of token buckets and staircases: what they let pass in so many ticks, its period, and how great an excess is. Nothing here speaks of the program. By the verifier's side. -/
import Derived.Test.YtjipmkgnndldpaaFPwMPwOPwXR56M
namespace Go.Proofs.Ytjipmkgnndldpaa

/-- What a token bucket lets pass in k ticks. -/
def tokN (bn bd rn rd k : Nat) : Nat := if k = 0 then 0 else (bn * rd + rn * (k - 1) * bd) / (bd * rd)
/-- What a staircase lets pass in k ticks. -/
def stairN (st ev ah k : Nat) : Nat := if k = 0 then 0 else (k + ah + ev - 1) / ev * st
def tokF (bn bd rn rd k : Nat) : Int := (tokN bn bd rn rd k : Nat)
def stairF (st ev ah k : Nat) : Int := (stairN st ev ah k : Nat)
def tokE (bn bd rn rd k : Nat) : Option Int := some (tokF bn bd rn rd k)
def stairE (st ev ah k : Nat) : Option Int := some (stairF st ev ah k)

theorem div_split (a b c d : Nat) (hd : 1 ≤ d) (h : a = b * d + c) : a / d = b + c / d := by
  subst h; rw [Nat.add_comm (b * d) c, Nat.add_mul_div_right _ _ hd, Nat.add_comm]

theorem tok_prog {bn bd rn rd k : Nat} (hbd : 1 ≤ bd) (hrd : 1 ≤ rd) (hk : 1 ≤ k) :
    rn * (k - 1) / rd + (bn * rd + rn * (k - 1) % rd * bd) / (bd * rd) = tokN bn bd rn rd k := by
  unfold tokN
  rw [if_neg (by omega)]
  have hm : 1 ≤ bd * rd := Nat.mul_pos hbd hrd
  refine (div_split _ _ _ _ hm ?_).symm
  have h := Nat.div_add_mod (rn * (k - 1)) rd
  generalize rn * (k - 1) = g at *
  generalize g / rd = q at *
  generalize g % rd = r at *
  subst h
  grind

theorem tok_doc {bn bd rn rd k : Nat} (hbd : 1 ≤ bd) (hrd : 1 ≤ rd) (hk : 1 ≤ k) :
    bn / bd + rn * (k - 1) / rd + (bn % bd * rd + rn * (k - 1) % rd * bd) / (bd * rd) = tokN bn bd rn rd k := by
  unfold tokN
  rw [if_neg (by omega)]
  have hm : 1 ≤ bd * rd := Nat.mul_pos hbd hrd
  refine (div_split _ _ _ _ hm ?_).symm
  have h := Nat.div_add_mod (rn * (k - 1)) rd
  have h2 := Nat.div_add_mod bn bd
  generalize rn * (k - 1) = g at *
  generalize g / rd = q at *
  generalize g % rd = r at *
  generalize bn / bd = q2 at *
  generalize bn % bd = r2 at *
  subst h; subst h2
  grind

theorem tok_add {bn bd rn rd k : Nat} (hbd : 1 ≤ bd) (hrd : 1 ≤ rd) (hk : 1 ≤ k) : tokN bn bd rn rd (k + rd) = tokN bn bd rn rd k + rn := by
  unfold tokN
  rw [if_neg (by omega), if_neg (by omega)]
  have hm : 1 ≤ bd * rd := Nat.mul_pos hbd hrd
  rw [Nat.add_comm _ rn]
  refine div_split _ _ _ _ hm ?_
  obtain ⟨j, rfl⟩ : ∃ j, k = j + 1 := ⟨k - 1, by omega⟩
  rw [show j + 1 + rd - 1 = j + rd by omega, show j + 1 - 1 = j by omega]
  grind

theorem tok_step {bn bd rn rd : Nat} (k : Nat) : tokN bn bd rn rd k ≤ tokN bn bd rn rd (k + 1) := by
  unfold tokN
  by_cases hk : k = 0
  · rw [if_pos hk]; exact Nat.zero_le _
  · rw [if_neg hk, if_neg (by omega)]
    refine Nat.div_le_div_right (Nat.add_le_add_left (Nat.mul_le_mul_right _ (Nat.mul_le_mul_left _ (by omega))) _)

theorem tok_bd {bn bd rn rd : Nat} (hbd : 1 ≤ bd) (hrd : 1 ≤ rd) (k : Nat) : tokN bn bd rn rd k ≤ bn + rn * (k - 1) := by
  unfold tokN
  split
  · omega
  · have hm : 1 ≤ bd * rd := Nat.mul_pos hbd hrd
    refine Nat.div_le_of_le_mul ?_
    generalize rn * (k - 1) = g
    have h1 : bn * rd ≤ bd * rd * bn := by
      have : rd * bn ≤ bd * (rd * bn) := Nat.le_mul_of_pos_left _ hbd
      calc bn * rd = rd * bn := Nat.mul_comm _ _
        _ ≤ bd * (rd * bn) := this
        _ = bd * rd * bn := by rw [Nat.mul_assoc]
    have h2 : g * bd ≤ bd * rd * g := by
      have : bd * g ≤ rd * (bd * g) := Nat.le_mul_of_pos_left _ hrd
      calc g * bd = bd * g := Nat.mul_comm _ _
        _ ≤ rd * (bd * g) := this
        _ = bd * rd * g := by rw [← Nat.mul_assoc, Nat.mul_comm rd bd]
    rw [Nat.mul_add]
    omega

theorem tok_per {bn bd rn rd : Nat} (hbd : 1 ≤ bd) (hrd : 1 ≤ rd) : Per (tokF bn bd rn rd) 1 rd rn := fun t ht => by
  show ((tokN bn bd rn rd (t + rd) : Nat) : Int) = (tokN bn bd rn rd t : Nat) + (rn : Int)
  rw [tok_add hbd hrd ht]; omega

theorem stair_add {st ev ah k : Nat} (hev : 1 ≤ ev) (hk : 1 ≤ k) : stairN st ev ah (k + ev) = stairN st ev ah k + st := by
  unfold stairN
  rw [if_neg (by omega), if_neg (by omega)]
  have h : (k + ev + ah + ev - 1) / ev = 1 + (k + ah + ev - 1) / ev := div_split _ _ _ _ hev (by omega)
  rw [h, Nat.add_mul]; omega

theorem stair_step {st ev ah : Nat} (k : Nat) : stairN st ev ah k ≤ stairN st ev ah (k + 1) := by
  unfold stairN
  by_cases hk : k = 0
  · rw [if_pos hk]; exact Nat.zero_le _
  · rw [if_neg hk, if_neg (by omega)]
    exact Nat.mul_le_mul_right _ (Nat.div_le_div_right (by omega))

theorem stair_bd {st ev ah : Nat} (hev : 1 ≤ ev) (k : Nat) : stairN st ev ah k ≤ (k + ah) * st := by
  unfold stairN
  split
  · exact Nat.zero_le _
  · refine Nat.mul_le_mul_right _ ?_
    rw [div_split (k + ah + ev - 1) 1 (k + ah - 1) ev hev (by omega)]
    have := Nat.div_le_self (k + ah - 1) ev
    omega

theorem stair_per {st ev ah : Nat} (hev : 1 ≤ ev) : Per (stairF st ev ah) 1 ev st := fun t ht => by
  show ((stairN st ev ah (t + ev) : Nat) : Int) = (stairN st ev ah t : Nat) + (st : Int)
  rw [stair_add hev ht]; omega

theorem tok_fin (bn bd rn rd t : Nat) : ¬ tokE bn bd rn rd t = none := fun h => by cases h
theorem stair_fin (st ev ah t : Nat) : ¬ stairE st ev ah t = none := fun h => by cases h

theorem tok_tame {bn bd rn rd : Nat} (hbd : 1 ≤ bd) (hrd : 1 ≤ rd) (h1 : bn ≤ 1073741824) (h2 : rn ≤ 1073741824) : Tame (tokE bn bd rn rd) := by
  refine ⟨fun t h => absurd h (tok_fin _ _ _ _ t), .inl ⟨400, Nat.le_refl _, _, rfl, ?_⟩⟩
  have := tok_bd (bn := bn) (rn := rn) hbd hrd 400
  unfold tokF infV
  omega

theorem stair_tame {st ev ah : Nat} (hev : 1 ≤ ev) (h1 : st ≤ 1073741824) (h2 : ah ≤ 1048576) : Tame (stairE st ev ah) := by
  refine ⟨fun t h => absurd h (stair_fin _ _ _ t), .inl ⟨400, Nat.le_refl _, _, rfl, ?_⟩⟩
  have := stair_bd (st := st) (ah := ah) hev 400
  have h3 : (400 + ah) * st ≤ 1048976 * 1073741824 := Nat.mul_le_mul (by omega) h1
  unfold stairF infV
  omega

theorem tok_val {bn bd rn rd : Nat} (hbd : 1 ≤ bd) (hrd : 1 ≤ rd) (h1 : bn ≤ 1073741824) (h2 : rn ≤ 1073741824) {t : Nat} (ht : t ≤ 1048576) : 0 ≤ tokF bn bd rn rd t ∧ tokF bn bd rn rd t ≤ 1125899906842624 * 2 := by
  have := tok_bd (bn := bn) (rn := rn) hbd hrd t
  have h3 : rn * (t - 1) ≤ 1073741824 * 1048576 := Nat.mul_le_mul h2 (by omega)
  unfold tokF
  omega

theorem stair_val {st ev ah : Nat} (hev : 1 ≤ ev) (h1 : st ≤ 1073741824) (h2 : ah ≤ 1048576) {t : Nat} (ht : t ≤ 1000) : 0 ≤ stairF st ev ah t ∧ stairF st ev ah t ≤ 2251799813685248 := by
  have := stair_bd (st := st) (ah := ah) hev t
  have h3 : (t + ah) * st ≤ 1049576 * 1073741824 := Nat.mul_le_mul (by omega) h1
  unfold stairF
  omega

theorem tok_raw {bn bd rn rd : Nat} (hbd : 1 ≤ bd) (hrd : 1 ≤ rd) (hrd2 : rd ≤ 120) (h1 : bn ≤ 1073741824) (h2 : rn ≤ 1073741824) :
    RawE (firsts (tokF bn bd rn rd) (1 + rd)) rd rn (tokE bn bd rn rd) := by
  have he : encF (tokE bn bd rn rd) = tokF bn bd rn rd := rfl
  rw [← he]
  refine rawE_of (by omega) hrd (by omega) (by omega) ⟨by omega, by omega⟩ (fun t h => absurd h (tok_fin _ _ _ _ t)) (fun t ht x hx => ?_) (fun _ => ?_) (fun ⟨t, h⟩ => absurd h (tok_fin _ _ _ _ t))
  · obtain rfl : tokF bn bd rn rd t = x := Option.some.inj hx
    have := tok_val (bn := bn) (rn := rn) hbd hrd h1 h2 (t := t) (by omega)
    omega
  · rw [he, show 1 + rd - rd = 1 by omega]; exact tok_per hbd hrd

theorem stair_raw {st ev ah : Nat} (hev : 1 ≤ ev) (hev2 : ev ≤ 120) (h1 : st ≤ 1073741824) (h2 : ah ≤ 1048576) :
    RawE (firsts (stairF st ev ah) (1 + ev)) ev st (stairE st ev ah) := by
  have he : encF (stairE st ev ah) = stairF st ev ah := rfl
  rw [← he]
  refine rawE_of (by omega) hev (by omega) (by omega) ⟨by omega, by omega⟩ (fun t h => absurd h (stair_fin _ _ _ t)) (fun t ht x hx => ?_) (fun _ => ?_) (fun ⟨t, h⟩ => absurd h (stair_fin _ _ _ t))
  · obtain rfl : stairF st ev ah t = x := Option.some.inj hx
    exact stair_val hev h1 h2 (by omega)
  · rw [he, show 1 + ev - ev = 1 by omega]; exact stair_per hev

/-- Small buckets and staircases have curves. -/
theorem tok_can {bn bd rn rd : Nat} (hbd : 1 ≤ bd) (hrd : 1 ≤ rd) (hrd2 : rd ≤ 120) (h1 : bn ≤ 536870912) (h2 : rn ≤ 4194304) : ECan (tokE bn bd rn rd) := by
  refine can_fin (F := tokF bn bd rn rd) (fun _ => rfl) (tok_per hbd hrd) hrd hrd2 (by omega) (by unfold tokF; omega) (fun t _ => ?_) ?_ (by omega)
  · unfold tokF; have := tok_step (bn := bn) (bd := bd) (rn := rn) (rd := rd) t; omega
  · have := tok_bd (bn := bn) (rn := rn) hbd hrd (1 + rd - 1)
    have h3 : rn * (1 + rd - 1 - 1) ≤ 4194304 * 120 := Nat.mul_le_mul h2 (by omega)
    unfold tokF; omega

theorem stair_can {st ev ah : Nat} (hev : 1 ≤ ev) (hev2 : ev ≤ 120) (h1 : st ≤ 1048576) (h2 : ah ≤ 800) : ECan (stairE st ev ah) := by
  refine can_fin (F := stairF st ev ah) (fun _ => rfl) (stair_per hev) hev hev2 (by omega) (by unfold stairF; omega) (fun t _ => ?_) ?_ (by omega)
  · unfold stairF; have := stair_step (st := st) (ev := ev) (ah := ah) t; omega
  · have := stair_bd (st := st) (ah := ah) hev (1 + ev - 1)
    have h3 : (1 + ev - 1 + ah) * st ≤ 920 * 1048576 := Nat.mul_le_mul (by omega) h1
    unfold stairF; omega

end Go.Proofs.Ytjipmkgnndldpaa

namespace Go.Proofs.Ytjipmkgnndldpaa

theorem stair_iff {st ev ah k : Nat} (hk : 1 ≤ k) : stairN st ev ah k = (k + ah + ev - 1) / ev * st := by
  unfold stairN; rw [if_neg (by omega)]

/-! ## Excess -/

/-- The sum of the first n numbers of a list. -/
def cumX (xs : List Int) : Nat → Int
  | 0 => 0
  | n + 1 => cumX xs n + xs.getD n 0

/-- A sum of sizes in a row, less what the bucket gets in between, in parts of a token. -/
def spanX (xs : List Int) (rn rd : Int) (i j : Nat) : Int := (cumX xs (j + 1) - cumX xs i) * rd - rn * ((j : Int) - i)

/-- The greatest of some spans, or 0. -/
def GreatX (P : Nat → Nat → Prop) (S : Nat → Nat → Int) (m : Int) : Prop :=
  0 ≤ m ∧ (∀ i j, P i j → S i j ≤ m) ∧ (m = 0 ∨ ∃ i j, P i j ∧ m = S i j)

theorem GreatX.unique {P : Nat → Nat → Prop} {S : Nat → Nat → Int} {m m' : Int} (h : GreatX P S m) (k : GreatX P S m') : m = m' := by
  have a : m ≤ m' := by
    rcases h.2.2 with h0 | ⟨i, j, hp, he⟩
    · rw [h0]; exact k.1
    · rw [he]; exact k.2.1 i j hp
  have b : m' ≤ m := by
    rcases k.2.2 with h0 | ⟨i, j, hp, he⟩
    · rw [h0]; exact h.1
    · rw [he]; exact h.2.1 i j hp
  omega

theorem GreatX.more {P Q : Nat → Nat → Prop} {S : Nat → Nat → Int} {m : Int} {a b : Nat} (h : GreatX P S m) (hq : ∀ i j, Q i j ↔ P i j ∨ (i = a ∧ j = b)) : GreatX Q S (max m (S a b)) := by
  obtain ⟨h0, h1, h2⟩ := h
  refine ⟨by omega, fun i j hij => ?_, ?_⟩
  · rcases (hq i j).1 hij with hp | ⟨rfl, rfl⟩
    · have := h1 i j hp; omega
    · omega
  · by_cases hm : S a b ≤ m
    · rw [show max m (S a b) = m by omega]
      rcases h2 with h | ⟨i, j, hp, he⟩
      · exact .inl h
      · exact .inr ⟨i, j, (hq i j).2 (.inl hp), he⟩
    · exact .inr ⟨a, b, (hq a b).2 (.inr ⟨rfl, rfl⟩), by omega⟩

theorem GreatX.none (S : Nat → Nat → Int) {P : Nat → Nat → Prop} (h : ∀ i j, ¬ P i j) : GreatX P S 0 := ⟨by omega, fun i j hp => absurd hp (h i j), .inl rfl⟩
/-- All spans of the first n sizes. -/
def PairX (n : Nat) (i j : Nat) : Prop := i ≤ j ∧ j < n

/-- What the program's bucket holds after n sizes: the greatest span that ends with the last one. -/
def TakenX (xs : List Int) (rn rd : Int) (n : Nat) (x : Int) : Prop :=
  (n = 0 ∧ x = 0) ∨ (1 ≤ n ∧ (∃ i, i < n ∧ x = spanX xs rn rd i (n - 1)) ∧ ∀ i, i < n → spanX xs rn rd i (n - 1) ≤ x)

theorem span_next (xs : List Int) (rn rd : Int) {i n : Nat} (h : i < n) : spanX xs rn rd i n = spanX xs rn rd i (n - 1) - rn + xs.getD n 0 * rd := by
  obtain ⟨k, rfl⟩ : ∃ k, n = k + 1 := ⟨n - 1, by omega⟩
  unfold spanX
  rw [show k + 1 - 1 = k by omega, show cumX xs (k + 1 + 1) = cumX xs (k + 1) + xs.getD (k + 1) 0 from rfl]
  generalize cumX xs (k + 1) = a
  generalize cumX xs i = b
  generalize xs.getD (k + 1) 0 = c
  rw [show ((k + 1 : Nat) : Int) = (k : Int) + 1 by omega]
  grind

theorem span_self (xs : List Int) (rn rd : Int) (n : Nat) : spanX xs rn rd n n = xs.getD n 0 * rd := by
  unfold spanX
  rw [show cumX xs (n + 1) = cumX xs n + xs.getD n 0 from rfl]
  generalize cumX xs n = a
  grind

theorem TakenX.start (xs : List Int) (rn rd : Int) : TakenX xs rn rd 0 0 := .inl ⟨rfl, rfl⟩

theorem TakenX.next {xs : List Int} {rn rd x : Int} {n : Nat} (h0 : 0 ≤ rn) (h : TakenX xs rn rd n x) : TakenX xs rn rd (n + 1) (max (x - rn) 0 + xs.getD n 0 * rd) := by
  refine .inr ⟨by omega, ?_⟩
  rw [show n + 1 - 1 = n by omega]
  rcases h with ⟨rfl, rfl⟩ | ⟨hn, ⟨i, hi, he⟩, hall⟩
  · refine ⟨⟨0, by omega, ?_⟩, fun i hi => ?_⟩
    · rw [span_self]; omega
    · obtain rfl : i = 0 := by omega
      rw [span_self]; omega
  · by_cases hx : 0 ≤ x - rn
    · refine ⟨⟨i, by omega, ?_⟩, fun k hk => ?_⟩
      · rw [span_next _ _ _ hi, ← he]; omega
      · by_cases hkn : k = n
        · subst hkn; rw [span_self]; omega
        · have := hall k (by omega); rw [span_next _ _ _ (by omega)]; omega
    · refine ⟨⟨n, by omega, ?_⟩, fun k hk => ?_⟩
      · rw [span_self]; omega
      · by_cases hkn : k = n
        · subst hkn; rw [span_self]; omega
        · have := hall k (by omega); rw [span_next _ _ _ (by omega)]; omega

theorem GreatX.next {xs : List Int} {rn rd x m : Int} {n : Nat} (h : GreatX (PairX n) (spanX xs rn rd) m) (hx : TakenX xs rn rd (n + 1) x) : GreatX (PairX (n + 1)) (spanX xs rn rd) (max m x) := by
  rcases hx with ⟨h0, _⟩ | ⟨_, ⟨i, hi, he⟩, hall⟩
  · omega
  rw [show n + 1 - 1 = n by omega] at he hall
  obtain ⟨h0, h1, h2⟩ := h
  refine ⟨by omega, fun a b ⟨hab, hb⟩ => ?_, ?_⟩
  · by_cases hbn : b = n
    · subst hbn; have := hall a (by omega); omega
    · have := h1 a b ⟨hab, by omega⟩; omega
  · by_cases hm : x ≤ m
    · rw [show max m x = m by omega]
      rcases h2 with h | ⟨a, b, ⟨hab, hb⟩, hh⟩
      · exact .inl h
      · exact .inr ⟨a, b, ⟨hab, by omega⟩, hh⟩
    · exact .inr ⟨i, n, ⟨by omega, by omega⟩, by omega⟩

/-- Sizes are within the limits. -/
def SizesX (xs : List Int) : Prop := ∀ i, i < xs.length → 0 ≤ xs.getD i 0 ∧ xs.getD i 0 ≤ 1500

theorem cum_bd {xs : List Int} (h : SizesX xs) : ∀ n, n ≤ xs.length → 0 ≤ cumX xs n ∧ cumX xs n ≤ 1500 * n
  | 0, _ => ⟨by unfold cumX; omega, by unfold cumX; omega⟩
  | n + 1, hn => by
    have a := cum_bd h n (by omega)
    have b := h n (by omega)
    show 0 ≤ cumX xs n + xs.getD n 0 ∧ cumX xs n + xs.getD n 0 ≤ _
    omega

theorem cum_up {xs : List Int} (h : SizesX xs) (i : Nat) : ∀ k, i + k ≤ xs.length → cumX xs i ≤ cumX xs (i + k)
  | 0, _ => Int.le_refl _
  | k + 1, hk => by
    have a := cum_up h i k (by omega)
    have b := h (i + k) (by omega)
    show cumX xs i ≤ cumX xs (i + k) + xs.getD (i + k) 0
    omega

/-! ## Sub-additive -/

/-! ## Which covers which -/

end Go.Proofs.Ytjipmkgnndldpaa

namespace Go.Proofs.Ytjipmkgnndldpaa

theorem span_bd {xs : List Int} (hs : SizesX xs) (hl : xs.length ≤ 381) {rn rd : Int} (h0 : 0 ≤ rn) (h1 : rn ≤ 1073741824) (h2 : 1 ≤ rd) (h3 : rd ≤ 1073741824) {i j : Nat} (hij : i ≤ j) (hj : j < xs.length) :
    -409095634944 ≤ spanX xs rn rd i j ∧ spanX xs rn rd i j ≤ 700000000000000 := by
  have hup := cum_up hs i (j + 1 - i) (by omega)
  rw [show i + (j + 1 - i) = j + 1 by omega] at hup
  have c1 := cum_bd hs (j + 1) (by omega)
  have c2 := cum_bd hs i (by omega)
  unfold spanX
  obtain ⟨y, hy⟩ : ∃ y, cumX xs (j + 1) - cumX xs i = y := ⟨_, rfl⟩
  obtain ⟨d, hd⟩ : ∃ d, ((j : Int) - (i : Int)) = d := ⟨_, rfl⟩
  rw [hy, hd]
  have e1 : y * rd ≤ 571500 * 1073741824 := Int.le_trans (Int.mul_le_mul_of_nonneg_left h3 (by omega)) (Int.mul_le_mul_of_nonneg_right (by omega) (by omega))
  have e2 : 0 ≤ y * rd := Int.mul_nonneg (by omega) (by omega)
  have e3 : rn * d ≤ 1073741824 * 381 := Int.le_trans (Int.mul_le_mul_of_nonneg_left (show d ≤ 381 by omega) h0) (Int.mul_le_mul_of_nonneg_right h1 (by omega))
  have e4 : 0 ≤ rn * d := Int.mul_nonneg h0 (by omega)
  omega

theorem great_bd {xs : List Int} (hs : SizesX xs) (hl : xs.length ≤ 381) {rn rd : Int} (h0 : 0 ≤ rn) (h1 : rn ≤ 1073741824) (h2 : 1 ≤ rd) (h3 : rd ≤ 1073741824) {n : Nat} (hn : n ≤ xs.length) {P : Nat → Nat → Prop} (hP : ∀ i j, P i j → i ≤ j ∧ j < n) {m : Int} (h : GreatX P (spanX xs rn rd) m) : 0 ≤ m ∧ m ≤ 700000000000000 := by
  refine ⟨h.1, ?_⟩
  rcases h.2.2 with he | ⟨i, j, hp, he⟩
  · omega
  · obtain ⟨h4, h5⟩ := hP i j hp
    have := span_bd hs hl h0 h1 h2 h3 h4 (show j < xs.length by omega)
    omega

theorem taken_bd {xs : List Int} (hs : SizesX xs) (hl : xs.length ≤ 381) {rn rd : Int} (h0 : 0 ≤ rn) (h1 : rn ≤ 1073741824) (h2 : 1 ≤ rd) (h3 : rd ≤ 1073741824) {n : Nat} (hn : n ≤ xs.length) {x : Int} (h : TakenX xs rn rd n x) : -409095634944 ≤ x ∧ x ≤ 700000000000000 := by
  rcases h with ⟨_, rfl⟩ | ⟨h4, ⟨i, hi, he⟩, _⟩
  · omega
  · have := span_bd hs hl h0 h1 h2 h3 (show i ≤ n - 1 by omega) (show n - 1 < xs.length by omega)
    omega

/-- What Excess answers. -/
def ExcIs (rn rd : Int) (ok : Bool) (xs : List Int) (r : Int × Int × Int) (F : Int → Int → Int × Int × Int) : Prop :=
  (ok = true ∧ xs.length ≤ 381 ∧ SizesX xs ∧ ∃ m, GreatX (PairX xs.length) (spanX xs rn rd) m ∧ r = F m rd) ∨ (¬ (ok = true ∧ xs.length ≤ 381 ∧ SizesX xs) ∧ r = (0, 0, 2))
end Go.Proofs.Ytjipmkgnndldpaa
