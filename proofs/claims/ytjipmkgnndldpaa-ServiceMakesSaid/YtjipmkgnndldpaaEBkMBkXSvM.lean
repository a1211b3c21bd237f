/- The mathematics of token buckets and staircases: what they let pass in so many ticks, its period, and how great an excess is. Nothing here speaks of the program. By the verifier's side. -/
import Derived.Test.YtjipmkgnndldpaaEPwMPwOPwXR56M
namespace Go.Proofs.Ytjipmkgnndldpaa

/-- What a token bucket lets pass in k ticks. -/
def tokN (bn bd rn rd k : Nat) : Nat := if k = 0 then 0 else (bn * rd + rn * (k - 1) * bd) / (bd * rd)
def tokF (bn bd rn rd k : Nat) : Int := (tokN bn bd rn rd k : Nat)
def tokE (bn bd rn rd k : Nat) : Option Int := some (tokF bn bd rn rd k)
theorem div_split (a b c d : Nat) (hd : 1 ≤ d) (h : a = b * d + c) : a / d = b + c / d := by
  subst h; rw [Nat.add_comm (b * d) c, Nat.add_mul_div_right _ _ hd, Nat.add_comm]

theorem tok_prog {bn bd rn rd k : Nat} (hbd : 1 ≤ bd) (hrd : 1 ≤ rd) (hk : 1 ≤ k) :
    rn * (k - 1) / rd + (bn * rd + rn * (k - 1) % rd * bd) / (bd * rd) = tokN bn bd rn rd k := by
  unfold tokN
  rw [if_neg (by omega)]
  have hm : 1 ≤ bd * rd := Nat.mul_pos hbd hrd
  refine (div_split _ _ _ _ hm ?_).symm
  have h := Nat.div_add_mod (rn * (k - 1)) rd
  generalize rn * (k - 1) = g at *
  generalize g / rd = q at *
  generalize g % rd = r at *
  subst h
  grind

theorem tok_add {bn bd rn rd k : Nat} (hbd : 1 ≤ bd) (hrd : 1 ≤ rd) (hk : 1 ≤ k) : tokN bn bd rn rd (k + rd) = tokN bn bd rn rd k + rn := by
  unfold tokN
  rw [if_neg (by omega), if_neg (by omega)]
  have hm : 1 ≤ bd * rd := Nat.mul_pos hbd hrd
  rw [Nat.add_comm _ rn]
  refine div_split _ _ _ _ hm ?_
  obtain ⟨j, rfl⟩ : ∃ j, k = j + 1 := ⟨k - 1, by omega⟩
  rw [show j + 1 + rd - 1 = j + rd by omega, show j + 1 - 1 = j by omega]
  grind

theorem tok_step {bn bd rn rd : Nat} (k : Nat) : tokN bn bd rn rd k ≤ tokN bn bd rn rd (k + 1) := by
  unfold tokN
  by_cases hk : k = 0
  · rw [if_pos hk]; exact Nat.zero_le _
  · rw [if_neg hk, if_neg (by omega)]
    refine Nat.div_le_div_right (Nat.add_le_add_left (Nat.mul_le_mul_right _ (Nat.mul_le_mul_left _ (by omega))) _)

theorem tok_bd {bn bd rn rd : Nat} (hbd : 1 ≤ bd) (hrd : 1 ≤ rd) (k : Nat) : tokN bn bd rn rd k ≤ bn + rn * (k - 1) := by
  unfold tokN
  split
  · omega
  · have hm : 1 ≤ bd * rd := Nat.mul_pos hbd hrd
    refine Nat.div_le_of_le_mul ?_
    generalize rn * (k - 1) = g
    have h1 : bn * rd ≤ bd * rd * bn := by
      have : rd * bn ≤ bd * (rd * bn) := Nat.le_mul_of_pos_left _ hbd
      calc bn * rd = rd * bn := Nat.mul_comm _ _
        _ ≤ bd * (rd * bn) := this
        _ = bd * rd * bn := by rw [Nat.mul_assoc]
    have h2 : g * bd ≤ bd * rd * g := by
      have : bd * g ≤ rd * (bd * g) := Nat.le_mul_of_pos_left _ hrd
      calc g * bd = bd * g := Nat.mul_comm _ _
        _ ≤ rd * (bd * g) := this
        _ = bd * rd * g := by rw [← Nat.mul_assoc, Nat.mul_comm rd bd]
    rw [Nat.mul_add]
    omega

theorem tok_per {bn bd rn rd : Nat} (hbd : 1 ≤ bd) (hrd : 1 ≤ rd) : Per (tokF bn bd rn rd) 1 rd rn := fun t ht => by
  show ((tokN bn bd rn rd (t + rd) : Nat) : Int) = (tokN bn bd rn rd t : Nat) + (rn : Int)
  rw [tok_add hbd hrd ht]; omega

theorem tok_fin (bn bd rn rd t : Nat) : ¬ tokE bn bd rn rd t = none := fun h => by cases h
theorem tok_tame {bn bd rn rd : Nat} (hbd : 1 ≤ bd) (hrd : 1 ≤ rd) (h1 : bn ≤ 1073741824) (h2 : rn ≤ 1073741824) : Tame (tokE bn bd rn rd) := by
  refine ⟨fun t h => absurd h (tok_fin _ _ _ _ t), .inl ⟨400, Nat.le_refl _, _, rfl, ?_⟩⟩
  have := tok_bd (bn := bn) (rn := rn) hbd hrd 400
  unfold tokF infV
  omega

theorem tok_val {bn bd rn rd : Nat} (hbd : 1 ≤ bd) (hrd : 1 ≤ rd) (h1 : bn ≤ 1073741824) (h2 : rn ≤ 1073741824) {t : Nat} (ht : t ≤ 1048576) : 0 ≤ tokF bn bd rn rd t ∧ tokF bn bd rn rd t ≤ 1125899906842624 * 2 := by
  have := tok_bd (bn := bn) (rn := rn) hbd hrd t
  have h3 : rn * (t - 1) ≤ 1073741824 * 1048576 := Nat.mul_le_mul h2 (by omega)
  unfold tokF
  omega

/-- Small buckets and staircases have curves. -/
theorem tok_can {bn bd rn rd : Nat} (hbd : 1 ≤ bd) (hrd : 1 ≤ rd) (hrd2 : rd ≤ 120) (h1 : bn ≤ 536870912) (h2 : rn ≤ 4194304) : ECan (tokE bn bd rn rd) := by
  refine can_fin (F := tokF bn bd rn rd) (fun _ => rfl) (tok_per hbd hrd) hrd hrd2 (by omega) (by unfold tokF; omega) (fun t _ => ?_) ?_ (by omega)
  · unfold tokF; have := tok_step (bn := bn) (bd := bd) (rn := rn) (rd := rd) t; omega
  · have := tok_bd (bn := bn) (rn := rn) hbd hrd (1 + rd - 1)
    have h3 : rn * (1 + rd - 1 - 1) ≤ 4194304 * 120 := Nat.mul_le_mul h2 (by omega)
    unfold tokF; omega

end Go.Proofs.Ytjipmkgnndldpaa

namespace Go.Proofs.Ytjipmkgnndldpaa

/-- A number is at most what a bucket lets pass exactly if it is so in fractions. -/
theorem tok_iff {bn bd rn rd k : Nat} (hbd : 1 ≤ bd) (hrd : 1 ≤ rd) (hk : 1 ≤ k) (m : Nat) : m ≤ tokN bn bd rn rd k ↔ m * (bd * rd) ≤ bn * rd + rn * (k - 1) * bd := by
  unfold tokN
  rw [if_neg (by omega)]
  exact Nat.le_div_iff_mul_le (Nat.mul_pos hbd hrd)

/-! ## Excess -/

/-! ## Sub-additive -/

/-! ## Which covers which -/

end Go.Proofs.Ytjipmkgnndldpaa

namespace Go.Proofs.Ytjipmkgnndldpaa

/-- The least integer that is at least n / d. -/
def upN (n d : Nat) : Nat := (n + d - 1) / d
/-- What a server with a pace has sent in t ticks. -/
def paceN (rn rd ln ld t : Nat) : Nat := upN (rn * (t * ld - ln)) (rd * ld)
def paceF (rn rd ln ld t : Nat) : Int := (paceN rn rd ln ld t : Nat)
def paceE (rn rd ln ld t : Nat) : Option Int := some (paceF rn rd ln ld t)

theorem up_le {n d : Nat} (hd : 1 ≤ d) (m : Nat) : upN n d ≤ m ↔ n ≤ m * d := by
  unfold upN
  rw [← Nat.lt_succ_iff, Nat.div_lt_iff_lt_mul (by omega), Nat.succ_mul]
  omega

theorem up_eq {n d n' d' : Nat} (hd : 1 ≤ d) (hd' : 1 ≤ d') (h : ∀ m, n ≤ m * d ↔ n' ≤ m * d') : upN n d = upN n' d' :=
  Nat.le_antisymm ((up_le hd _).2 ((h _).2 ((up_le hd' _).1 (Nat.le_refl _)))) ((up_le hd' _).2 ((h _).1 ((up_le hd _).1 (Nat.le_refl _))))

theorem up_add {n d : Nat} (hd : 1 ≤ d) (m : Nat) : upN (n + m * d) d = upN n d + m := by
  unfold upN
  rw [show n + m * d + d - 1 = (n + d - 1) + m * d by omega, Nat.add_mul_div_right _ _ (by omega)]

theorem up_up {n a b : Nat} (ha : 1 ≤ a) (hb : 1 ≤ b) : upN (upN n a) b = upN n (b * a) :=
  up_eq hb (Nat.mul_pos hb ha) fun m => by rw [up_le ha, Nat.mul_assoc]

theorem up_mono {n m d : Nat} (h : n ≤ m) : upN n d ≤ upN m d := Nat.div_le_div_right (by omega)
theorem up_zero {d : Nat} (hd : 1 ≤ d) : upN 0 d = 0 := by have := (up_le (n := 0) hd 0).2 (by omega); omega
theorem up_self (n : Nat) : upN n 1 = n := by unfold upN; rw [Nat.div_one]; omega

/-- The program's way: whole ticks and the rest of one. -/
theorem pace_prog {rn rd ln ld t : Nat} (hrd : 1 ≤ rd) (hld : 1 ≤ ld) :
    upN (rn * ((t * ld - ln) / ld) + upN (rn * ((t * ld - ln) % ld)) ld) rd = paceN rn rd ln ld t := by
  unfold paceN
  have h := Nat.div_add_mod (t * ld - ln) ld
  generalize t * ld - ln = x at *
  generalize x / ld = q at *
  generalize x % ld = r at *
  rw [Nat.add_comm, ← up_add hld, up_up hld hrd]
  congr 1
  subst h
  grind

/-- The document's way: from the first whole tick behind the latency on. -/
theorem pace_doc {rn rd ln ld f j : Nat} (hrd : 1 ≤ rd) (hld : 1 ≤ ld) (hf : ln ≤ f * ld) :
    rn * j / rd + rn / rd * (f * ld - ln) / ld + upN (rn * j % rd * ld + rn % rd * (f * ld - ln) + rn / rd * (f * ld - ln) % ld * rd) (rd * ld) = paceN rn rd ln ld (f + j) := by
  unfold paceN
  obtain ⟨x, hx⟩ : ∃ x, f * ld - ln = x := ⟨_, rfl⟩
  rw [show (f + j) * ld - ln = j * ld + x by rw [Nat.add_mul]; omega, hx]
  have h1 := Nat.div_add_mod (rn * j) rd
  have h2 := Nat.div_add_mod rn rd
  have h3 := Nat.div_add_mod (rn / rd * x) ld
  generalize rn / rd * x / ld = e at *
  generalize rn / rd * x % ld = g at *
  generalize rn * j / rd = a at *
  generalize rn * j % rd = b at *
  generalize rn / rd = c at *
  generalize rn % rd = d at *
  have hm : 1 ≤ rd * ld := Nat.mul_pos hrd hld
  rw [Nat.add_comm, ← up_add hm]
  congr 1
  have k1 : rn * (j * ld + x) = (rn * j) * ld + rn * x := by grind
  rw [k1, ← h1]
  have k2 : rn * x = rd * (c * x) + d * x := by rw [← h2]; grind
  rw [k2, ← h3]
  grind

theorem pace_le {rn rd ln ld t : Nat} (hrd : 1 ≤ rd) (hld : 1 ≤ ld) (m : Nat) : paceN rn rd ln ld t ≤ m ↔ rn * (t * ld - ln) ≤ m * (rd * ld) := up_le (Nat.mul_pos hrd hld) m

theorem pace_step {rn rd ln ld : Nat} (t : Nat) : paceN rn rd ln ld t ≤ paceN rn rd ln ld (t + 1) :=
  up_mono (Nat.mul_le_mul_left _ (Nat.sub_le_sub_right (Nat.mul_le_mul_right _ (Nat.le_succ t)) _))

theorem pace_add {rn rd ln ld t : Nat} (hrd : 1 ≤ rd) (hld : 1 ≤ ld) (ht : ln ≤ t * ld) : paceN rn rd ln ld (t + rd) = paceN rn rd ln ld t + rn := by
  unfold paceN
  rw [← up_add (Nat.mul_pos hrd hld)]
  congr 1
  rw [show (t + rd) * ld - ln = (t * ld - ln) + rd * ld by rw [Nat.add_mul]; omega]
  rw [Nat.mul_add]

theorem pace_bd {rn rd ln ld : Nat} (hrd : 1 ≤ rd) (hld : 1 ≤ ld) (t : Nat) : paceN rn rd ln ld t ≤ rn * t := by
  refine (pace_le hrd hld _).2 ?_
  calc rn * (t * ld - ln) ≤ rn * (t * ld) := Nat.mul_le_mul_left _ (Nat.sub_le _ _)
    _ = rn * t * ld := (Nat.mul_assoc _ _ _).symm
    _ ≤ rn * t * (rd * ld) := Nat.mul_le_mul_left _ (Nat.le_mul_of_pos_left _ hrd)

theorem pace_none {rn rd ln ld t : Nat} (hrd : 1 ≤ rd) (hld : 1 ≤ ld) (ht : t * ld ≤ ln) : paceN rn rd ln ld t = 0 := by
  have := (pace_le (rn := rn) hrd hld (t := t) (ln := ln) 0).2 (by rw [show t * ld - ln = 0 by omega]; simp)
  omega

theorem pace_some {rn rd ln ld t : Nat} (hrd : 1 ≤ rd) (hld : 1 ≤ ld) (hrn : 1 ≤ rn) (ht : ln < t * ld) : 1 ≤ paceN rn rd ln ld t := by
  refine Nat.pos_of_ne_zero fun h => ?_
  have := (pace_le (rn := rn) hrd hld (t := t) (ln := ln) 0).1 (by omega)
  rw [Nat.zero_mul] at this
  have := Nat.mul_pos hrn (show 1 ≤ t * ld - ln by omega)
  omega

theorem pace_flat {rd ln ld t : Nat} (hrd : 1 ≤ rd) (hld : 1 ≤ ld) : paceN 0 rd ln ld t = 0 := by
  unfold paceN; rw [Nat.zero_mul]; exact up_zero (Nat.mul_pos hrd hld)

/-- The first whole tick that is not below the latency. -/
theorem first_le {ln ld t : Nat} (hld : 1 ≤ ld) : upN ln ld ≤ t ↔ ln ≤ t * ld := up_le hld t

theorem pace_per {rn rd ln ld : Nat} (hrd : 1 ≤ rd) (hld : 1 ≤ ld) {f : Nat} (hf : ln ≤ f * ld) : Per (paceF rn rd ln ld) f rd rn := fun t ht => by
  show ((paceN rn rd ln ld (t + rd) : Nat) : Int) = (paceN rn rd ln ld t : Nat) + (rn : Int)
  rw [pace_add hrd hld (Nat.le_trans hf (Nat.mul_le_mul_right _ ht))]; omega

theorem pace_fin (rn rd ln ld t : Nat) : ¬ paceE rn rd ln ld t = none := fun h => by cases h

theorem pace_tame {rn rd ln ld : Nat} (hrd : 1 ≤ rd) (hld : 1 ≤ ld) (h2 : rn ≤ 1073741824) : Tame (paceE rn rd ln ld) := by
  refine ⟨fun t h => absurd h (pace_fin _ _ _ _ t), .inl ⟨400, Nat.le_refl _, _, rfl, ?_⟩⟩
  have := pace_bd (rn := rn) (ln := ln) hrd hld 400
  unfold paceF infV
  omega

theorem pace_val {rn rd ln ld : Nat} (hrd : 1 ≤ rd) (hld : 1 ≤ ld) (h2 : rn ≤ 1073741824) {t : Nat} (ht : t ≤ 1048576) : 0 ≤ paceF rn rd ln ld t ∧ paceF rn rd ln ld t ≤ 1125899906842624 := by
  have := pace_bd (rn := rn) (ln := ln) hrd hld t
  have h3 : rn * t ≤ 1073741824 * 1048576 := Nat.mul_le_mul h2 ht
  unfold paceF
  omega

/-- Values up to ticks far behind the limits stay within the program's numbers. -/
theorem pace_far {rn rd ln ld : Nat} (hrd : 1 ≤ rd) (hld : 1 ≤ ld) (h2 : rn ≤ 1073741824) {t : Nat} (ht : t ≤ 4294967040) : 0 ≤ paceF rn rd ln ld t ∧ paceF rn rd ln ld t ≤ 4611686018427387904 := by
  have := pace_bd (rn := rn) (ln := ln) hrd hld t
  have h3 : rn * t ≤ 1073741824 * 4294967040 := Nat.mul_le_mul h2 ht
  unfold paceF
  omega

theorem pace_raw {rn rd ln ld f : Nat} (hrd : 1 ≤ rd) (hrd2 : rd ≤ 120) (hld : 1 ≤ ld) (h2 : rn ≤ 1073741824) (hf : ln ≤ f * ld) (hf2 : f ≤ 400) :
    RawE (firsts (paceF rn rd ln ld) (f + rd)) rd rn (paceE rn rd ln ld) := by
  have he : encF (paceE rn rd ln ld) = paceF rn rd ln ld := rfl
  rw [← he]
  refine rawE_of (by omega) hrd (by omega) (by omega) ⟨by omega, by omega⟩ (fun t h => absurd h (pace_fin _ _ _ _ t)) (fun t ht x hx => ?_) (fun _ => ?_) (fun ⟨t, h⟩ => absurd h (pace_fin _ _ _ _ t))
  · obtain rfl : paceF rn rd ln ld t = x := Option.some.inj hx
    have := pace_val (rn := rn) (ln := ln) hrd hld h2 (t := t) (by omega)
    omega
  · rw [he, show f + rd - rd = f by omega]; exact pace_per hrd hld hf

/-- A pace that waits for too long has no curve. -/
theorem pace_no {rn rd ln ld : Nat} (hrd : 1 ≤ rd) (hld : 1 ≤ ld) (hrn : 1 ≤ rn) (hf : 400 < upN ln ld) : ¬ ECan (paceE rn rd ln ld) := fun h => by
  obtain ⟨zs, p, inc, g, he⟩ := h.can
  have h1 := g.few; have h2 := g.p1; have h3 := g.p3
  have hz : ∀ t, t ≤ 400 → paceF rn rd ln ld t = 0 := fun t ht => by
    have : ¬ ln ≤ t * ld := fun hh => by have := (first_le hld).2 hh; omega
    show ((paceN rn rd ln ld t : Nat) : Int) = 0
    rw [pace_none hrd hld (by omega)]; rfl
  have hper : Per (paceF rn rd ln ld) (zs.length - p) p inc := fun t ht => by
    have e1 := he t; have e2 := he (t + p)
    change _ = paceF rn rd ln ld t at e1
    change _ = paceF rn rd ln ld (t + p) at e2
    rw [← e1, ← e2]; exact g.perAny t ht
  have hi : inc = 0 := by
    have := hper (zs.length - p) (Nat.le_refl _)
    rw [hz _ (by omega), hz _ (by omega)] at this
    omega
  have hk := (hper.mul (ln + 1)) (zs.length - p) (Nat.le_refl _)
  rw [hi, hz (zs.length - p) (by omega), Int.mul_zero] at hk
  have hlt : ln < (zs.length - p + (ln + 1) * p) * ld := by
    have e1 : ln + 1 ≤ (ln + 1) * p := Nat.le_mul_of_pos_right _ h2
    have e2 : (zs.length - p + (ln + 1) * p) ≤ (zs.length - p + (ln + 1) * p) * ld := Nat.le_mul_of_pos_right _ hld
    omega
  have := pace_some (rn := rn) hrd hld hrn hlt
  change ((paceN rn rd ln ld (zs.length - p + (ln + 1) * p) : Nat) : Int) = _ at hk
  omega

/-- Small paces have curves. -/
theorem pace_can {rn rd ln ld f : Nat} (hrd : 1 ≤ rd) (hrd2 : rd ≤ 120) (hld : 1 ≤ ld) (h2 : rn ≤ 1048576) (hf : ln ≤ f * ld) (hf2 : f + rd ≤ 400) : ECan (paceE rn rd ln ld) := by
  refine can_fin (F := paceF rn rd ln ld) (fun _ => rfl) (pace_per hrd hld hf) hrd hrd2 (by omega) (by unfold paceF; omega) (fun t _ => ?_) ?_ (by omega)
  · unfold paceF; have := pace_step (rn := rn) (rd := rd) (ln := ln) (ld := ld) t; omega
  · have := pace_bd (rn := rn) (ln := ln) hrd hld (f + rd - 1)
    have h3 : rn * (f + rd - 1) ≤ 1048576 * 400 := Nat.mul_le_mul h2 (by omega)
    unfold paceF; omega

/-! ## Which pace is at least which -/

/-- A greater rate has sent at least as much. -/
theorem pace_rate {rn rd rn' rd' ln ld : Nat} (hrd : 1 ≤ rd) (hrd' : 1 ≤ rd') (hld : 1 ≤ ld) (h : rn * rd' ≤ rn' * rd) (t : Nat) : paceN rn rd ln ld t ≤ paceN rn' rd' ln ld t := by
  refine (pace_le hrd hld _).2 ?_
  have k := (pace_le (rn := rn') (ln := ln) hrd' hld (t := t) _).1 (Nat.le_refl _)
  generalize paceN rn' rd' ln ld t = m at *
  generalize t * ld - ln = x at *
  refine Nat.le_of_mul_le_mul_right (?_ : _ * rd' ≤ _ * rd') hrd'
  calc rn * x * rd' = rn * rd' * x := by grind
    _ ≤ rn' * rd * x := Nat.mul_le_mul_right _ h
    _ = rn' * x * rd := by grind
    _ ≤ m * (rd' * ld) * rd := Nat.mul_le_mul_right _ k
    _ = m * (rd * ld) * rd' := by grind

theorem sub_cross {t ln ld ln' ld' : Nat} (h : ln' * ld ≤ ln * ld') : (t * ld - ln) * ld' ≤ (t * ld' - ln') * ld := by
  rw [Nat.sub_mul, Nat.sub_mul, show t * ld' * ld = t * ld * ld' by grind]
  exact Nat.sub_le_sub_left h _

/-- A lesser latency has sent at least as much. -/
theorem pace_late {rn rd ln ld ln' ld' : Nat} (hrd : 1 ≤ rd) (hld : 1 ≤ ld) (hld' : 1 ≤ ld') (h : ln' * ld ≤ ln * ld') (t : Nat) : paceN rn rd ln ld t ≤ paceN rn rd ln' ld' t := by
  refine (pace_le hrd hld _).2 ?_
  have k := (pace_le (rn := rn) (ln := ln') hrd hld' (t := t) _).1 (Nat.le_refl _)
  have hs := sub_cross (t := t) h
  generalize paceN rn rd ln' ld' t = m at *
  generalize t * ld - ln = x at *
  generalize t * ld' - ln' = y at *
  refine Nat.le_of_mul_le_mul_right (?_ : _ * ld' ≤ _ * ld') hld'
  calc rn * x * ld' = rn * (x * ld') := by grind
    _ ≤ rn * (y * ld) := Nat.mul_le_mul_left _ hs
    _ = rn * y * ld := by grind
    _ ≤ m * (rd * ld') * ld := Nat.mul_le_mul_right _ k
    _ = m * (rd * ld) * ld' := by grind

/-- Two fractions that are the same latency. -/
theorem pace_same {rn rd ln ld ln' ld' : Nat} (hrd : 1 ≤ rd) (hld : 1 ≤ ld) (hld' : 1 ≤ ld') (h : ln' * ld = ln * ld') (t : Nat) : paceN rn rd ln ld t = paceN rn rd ln' ld' t :=
  Nat.le_antisymm (pace_late hrd hld hld' (by omega) t) (pace_late hrd hld' hld (by omega) t)

/-- Whole ticks of latency are a delay. -/
theorem pace_delay {rn rd ln ld wn wd n : Nat} (hrd : 1 ≤ rd) (hld : 1 ≤ ld) (hwd : 1 ≤ wd) (h : wn * ld = (ln + n * ld) * wd) (t : Nat) : paceN rn rd wn wd t = if t < n then 0 else paceN rn rd ln ld (t - n) := by
  rw [← pace_same (rn := rn) hrd hld hwd h t]
  split
  · rename_i hlt
    exact pace_none hrd hld (Nat.le_trans (Nat.mul_le_mul_right _ (by omega)) (Nat.le_add_left _ _))
  · rename_i hge
    unfold paceN
    congr 2
    rw [Nat.sub_mul]
    omega

/-- One after the other: what two servers have sent is at least what their chain has. -/
theorem pace_chain {an ad kn kd bn bd ln ld rn rd cn cd s t : Nat} (had : 1 ≤ ad) (hkd : 1 ≤ kd) (hbd : 1 ≤ bd) (hld : 1 ≤ ld) (hrd : 1 ≤ rd) (hcd : 1 ≤ cd)
    (h1 : rn * ad ≤ an * rd) (h2 : rn * bd ≤ bn * rd) (hc : (kn * ld + ln * kd) * cd = cn * (kd * ld)) :
    paceN rn rd cn cd (s + t) ≤ paceN an ad kn kd s + paceN bn bd ln ld t := by
  refine Nat.le_trans ?_ (Nat.add_le_add (pace_rate (ln := kn) (ld := kd) hrd had hkd h1 s) (pace_rate (ln := ln) (ld := ld) hrd hbd hld h2 t))
  have hkl : 1 ≤ kd * ld := Nat.mul_pos hkd hld
  rw [pace_same (rn := rn) hrd hcd hkl (by rw [hc]) (s + t)]
  refine (pace_le hrd hkl _).2 ?_
  have e1 := (pace_le (rn := rn) (ln := kn) hrd hkd (t := s) _).1 (Nat.le_refl _)
  have e2 := (pace_le (rn := rn) (ln := ln) hrd hld (t := t) _).1 (Nat.le_refl _)
  generalize paceN rn rd kn kd s = x at *
  generalize paceN rn rd ln ld t = y at *
  have hs : (s + t) * (kd * ld) - (kn * ld + ln * kd) ≤ (s * kd - kn) * ld + (t * ld - ln) * kd := by
    rw [Nat.sub_mul, Nat.sub_mul, show (s + t) * (kd * ld) = s * kd * ld + t * ld * kd by grind]
    omega
  generalize s * kd - kn = u at *
  generalize t * ld - ln = v at *
  calc rn * ((s + t) * (kd * ld) - (kn * ld + ln * kd)) ≤ rn * (u * ld + v * kd) := Nat.mul_le_mul_left _ hs
    _ = rn * u * ld + rn * v * kd := by grind
    _ ≤ x * (rd * kd) * ld + y * (rd * ld) * kd := Nat.add_le_add (Nat.mul_le_mul_right _ e1) (Nat.mul_le_mul_right _ e2)
    _ = (x + y) * (rd * (kd * ld)) := by grind

/-! ## A token bucket at a pace -/

/-- The wait of a bucket at a pace is enough: with D ticks of delay what has come has been sent. D is at least Latency + Burst / Rate - 1, and the bucket's rate is at most the pace's. -/
theorem tok_pace {bn bd an ad rn rd ln ld D : Nat} (hbd : 1 ≤ bd) (had : 1 ≤ ad) (hrd : 1 ≤ rd) (hld : 1 ≤ ld) (hr : an * rd ≤ rn * ad)
    (hD : ln * (bd * rn) + bn * rd * ld ≤ (D + 1) * (ld * (bd * rn))) (t : Nat) : tokN bn bd an ad t ≤ paceN rn rd ln ld (t + D) := by
  by_cases ht : t = 0
  · subst ht; unfold tokN; simp
  obtain ⟨j, rfl⟩ : ∃ j, t = j + 1 := ⟨t - 1, by omega⟩
  have a := (tok_iff (bn := bn) (rn := an) (k := j + 1) hbd had (by omega) _).1 (Nat.le_refl _)
  have b := (pace_le (rn := rn) (ln := ln) hrd hld (t := j + 1 + D) _).1 (Nat.le_refl _)
  rw [show j + 1 - 1 = j by omega] at a
  generalize tokN bn bd an ad (j + 1) = x at *
  generalize paceN rn rd ln ld (j + 1 + D) = y at *
  -- x (bd ad) <= bn ad + an j bd; rn ((j+1+D) ld - ln) <= y rd ld
  have hM : 0 < bd * ad * (rd * ld) := Nat.mul_pos (Nat.mul_pos hbd had) (Nat.mul_pos hrd hld)
  refine Nat.le_of_mul_le_mul_right ?_ hM
  have s1 : x * (bd * ad) * (rd * ld) ≤ (bn * ad + an * j * bd) * (rd * ld) := Nat.mul_le_mul_right _ a
  have s2 : rn * ((j + 1 + D) * ld - ln) * (bd * ad) ≤ y * (rd * ld) * (bd * ad) := Nat.mul_le_mul_right _ b
  have s3 : an * rd * (j * bd * ld) ≤ rn * ad * (j * bd * ld) := Nat.mul_le_mul_right _ hr
  have s4 : (ln * (bd * rn) + bn * rd * ld) * ad ≤ (D + 1) * (ld * (bd * rn)) * ad := Nat.mul_le_mul_right _ hD
  have s5 : rn * ((j + 1 + D) * ld - ln) * (bd * ad) = rn * ((j + 1 + D) * ld) * (bd * ad) - rn * ln * (bd * ad) := by rw [Nat.mul_sub, Nat.sub_mul]
  have s6 : (bn * ad + an * j * bd) * (rd * ld) = bn * ad * (rd * ld) + an * rd * (j * bd * ld) := by grind
  have s7 : (ln * (bd * rn) + bn * rd * ld) * ad = rn * ln * (bd * ad) + bn * ad * (rd * ld) := by grind
  have s8 : rn * ((j + 1 + D) * ld) * (bd * ad) = rn * ad * (j * bd * ld) + (D + 1) * (ld * (bd * rn)) * ad := by grind
  have s9 : x * (bd * ad * (rd * ld)) = x * (bd * ad) * (rd * ld) := by grind
  have s10 : y * (bd * ad * (rd * ld)) = y * (rd * ld) * (bd * ad) := by grind
  rw [s9, s10]
  omega

end Go.Proofs.Ytjipmkgnndldpaa
