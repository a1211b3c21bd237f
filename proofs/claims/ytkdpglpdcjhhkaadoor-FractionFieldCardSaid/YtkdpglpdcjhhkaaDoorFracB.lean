/- Contracts of package fraction: Compare, Floor, Ceil. By the verifier's side. -/
import Derived.Test.YtkdpglpdcjhhkaaDoorFrac
namespace Go.Proofs.YtkdpglpdcjhhkaaDoor
open Go.RowKit
set_option linter.unusedSimpArgs false

def compareF (n1 d1 n2 d2 : Int) : Int := if okF n1 d1 && okF n2 d2 then Lib.compareInt (n1 * d2) (n2 * d1) else 0
def floorF (n d : Int) : Int := if okF n d then n / d else 0
def ceilF (n d : Int) : Int := if okF n d then -((-n) / d) else 0

theorem two1 {w w1 : World} {o1 o2 : Obj} (hb : Below ((w.alloc o1).alloc o2).heap.size ((w.alloc o1).alloc o2) w1) : Below w.heap.size w w1 :=
  (((Below.refl _ _).alloc (Nat.le_refl _) o1).alloc (by simp) o2).trans (hb.mono (by simp; omega))
theorem one1 {w w1 : World} {o1 : Obj} (hb : Below (w.alloc o1).heap.size (w.alloc o1) w1) : Below w.heap.size w w1 :=
  ((Below.refl _ _).alloc (Nat.le_refl _) o1).trans (hb.mono (by simp))

set_option maxHeartbeats 800000 in
theorem compare_all (n1 d1 n2 d2 : Int) (w : World) :
    Calls Tryd.prog 29 #[.agg #[.int .i64 n1, .int .i64 d1], .agg #[.int .i64 n2, .int .i64 d2]] w (Says (.int .i64 (compareF n1 d1 n2 d2)) w) := by
  unfold compareF
  by_cases h : (okF n1 d1 && okF n2 d2) = true
  · rw [if_pos h]
    have H := Lib.hid h
    rw [Bool.and_eq_true, okF_iff, okF_iff] at h
    have m1 := mul_bd n1 d2 (by omega) (by omega)
    have m2 := mul_bd n2 d1 (by omega) (by omega)
    clear h
    go_enter Tryd.func29, Tryd.ntmps29
    go_wp2_with fail
    refine (both_all n1 d1 n2 d2 _ _ rfl rfl _).mono ?_
    rintro e w1 ⟨he, hb⟩
    rw [H.out] at he
    subst he
    obtain ⟨hc, hf⟩ := bcell hb
    have hz : w.heap.size + 1 < w1.heap.size := by have := hb.size; simp at this; omega
    go_wp2_with fail
    refine (Tryd.cmp_Compare_int _ _ _).mono ?_
    rintro e w2 ⟨rfl, hw⟩
    subst hw
    go_wp2_with fail
    go_ret
    exact ⟨rfl, two1 hb⟩
  · rw [if_neg h]
    have H := Lib.hid (show (okF n1 d1 && okF n2 d2) = false by simpa using h)
    clear h
    go_enter Tryd.func29, Tryd.ntmps29
    go_wp2_with fail
    refine (both_all n1 d1 n2 d2 _ _ rfl rfl _).mono ?_
    rintro e w1 ⟨he, hb⟩
    rw [H.out] at he
    subst he
    go_wp2_with fail
    go_ret
    exact ⟨rfl, two1 hb⟩

/-- Go's quotient and remainder against the floor. -/
theorem floor_facts (n d : Int) (_hd : 1 ≤ d) : (n.tmod d < 0 → n.tdiv d - 1 = n / d) ∧ (0 ≤ n.tmod d → n.tdiv d = n / d) := by
  have e := Int.tmod_add_mul_tdiv n d
  have h1 := Int.tmod_lt_of_pos n (show 0 < d by omega)
  have h2 : -d < n.tmod d := Int.lt_tmod_of_pos n (show 0 < d by omega)
  constructor
  · intro h
    have : n = (n.tmod d + d) + d * (n.tdiv d - 1) := by rw [Int.mul_sub]; omega
    conv => rhs; rw [this]
    rw [Int.add_mul_ediv_left _ _ (by omega), Int.ediv_eq_zero_of_lt (by omega) (by omega)]
    omega
  · intro h
    conv => rhs; rw [← e]
    rw [Int.add_mul_ediv_left _ _ (by omega), Int.ediv_eq_zero_of_lt h h1]
    omega

theorem tdiv_bd (n d : Int) (_hd : 1 ≤ d) (h : -1073741824 ≤ n ∧ n ≤ 1073741824) : -1073741824 ≤ n.tdiv d ∧ n.tdiv d ≤ 1073741824 := by
  have h1 : (n.tdiv d).natAbs = n.natAbs / d.natAbs := Int.natAbs_tdiv n d
  have h2 : n.natAbs / d.natAbs ≤ n.natAbs := Nat.div_le_self _ _
  omega

set_option maxHeartbeats 800000 in
theorem floor_all (n d : Int) (w : World) :
    Calls Tryd.prog 20 #[.agg #[.int .i64 n, .int .i64 d]] w (Says (.int .i64 (floorF n d)) w) := by
  unfold floorF
  by_cases h : okF n d = true
  · rw [if_pos h]
    have H := Lib.hid h
    rw [okF_iff] at h
    have hd : 1 ≤ d := h.1
    have hd2 : d ≤ 1073741824 := h.2.1
    have hn1 : -1073741824 ≤ n := h.2.2.1
    have hn2 : n ≤ 1073741824 := h.2.2.2.1
    have hd0 : ¬ d = 0 := by omega
    have q := tdiv_bd n d hd ⟨hn1, hn2⟩
    have r1 := Int.tmod_lt_of_pos n (show 0 < d by omega)
    have r2 : -d < n.tmod d := Int.lt_tmod_of_pos n (show 0 < d by omega)
    have F := Lib.hid (floor_facts n d hd)
    clear h
    by_cases hm : n.tmod d < 0
    · have hq := F.out.1 hm
      generalize n / d = z at hq
      have HQ := Lib.hid hq
      clear hq
      go_enter Tryd.func20, Tryd.ntmps20
      go_wp2_with fail
      refine (valid_all n d _ H.out _).mono ?_
      rintro e w1 ⟨rfl, hb⟩
      obtain ⟨hc, hf⟩ := bcell hb
      have hz : w.heap.size < w1.heap.size := by have := hb.size; simp at this; omega
      go_wp2_with fail
      go_ret
      exact ⟨ret_int HQ.out, one1 hb⟩
    · have hq := F.out.2 (by omega)
      generalize n / d = z at hq
      have HQ := Lib.hid hq
      clear hq
      go_enter Tryd.func20, Tryd.ntmps20
      go_wp2_with fail
      refine (valid_all n d _ H.out _).mono ?_
      rintro e w1 ⟨rfl, hb⟩
      obtain ⟨hc, hf⟩ := bcell hb
      have hz : w.heap.size < w1.heap.size := by have := hb.size; simp at this; omega
      go_wp2_with fail
      go_ret
      exact ⟨ret_int HQ.out, one1 hb⟩
  · rw [if_neg h]
    have H := Lib.hid (show okF n d = false by simpa using h)
    clear h
    go_enter Tryd.func20, Tryd.ntmps20
    go_wp2_with fail
    refine (valid_all n d _ H.out _).mono ?_
    rintro e w1 ⟨rfl, hb⟩
    go_wp2_with fail
    go_ret
    exact ⟨rfl, one1 hb⟩

theorem okF_neg (n d : Int) : okF (-n) d = okF n d := by
  rw [Bool.eq_iff_iff, okF_iff, okF_iff, Int.natAbs_neg]
  omega

theorem floorF_bd (n d : Int) : -1073741824 ≤ floorF n d ∧ floorF n d ≤ 1073741824 := by
  unfold floorF
  split
  · rename_i h
    rw [okF_iff] at h
    constructor
    · have : -1073741824 * d ≤ n := by omega
      exact Int.le_ediv_of_mul_le (by omega) (by omega)
    · exact Int.le_trans (Int.ediv_le_ediv (by omega) h.2.2.2.1) (Int.ediv_le_self _ (by omega))
  · omega

set_option maxHeartbeats 800000 in
theorem ceil_all (n d : Int) (hn : In64 n) (w : World) :
    Calls Tryd.prog 22 #[.agg #[.int .i64 n, .int .i64 d]] w (Says (.int .i64 (ceilF n d)) w) := by
  obtain ⟨m, hm⟩ : ∃ m, wrap64 (-n) = m := ⟨_, rfl⟩
  have hv : -(floorF m d) = ceilF n d := by
    unfold floorF ceilF
    by_cases hk : n = -9223372036854775808
    · have e : m = n := by rw [← hm, hk]; unfold wrap64; omega
      rw [e, okF_no n d (by omega)]
      rfl
    · have e : m = -n := by rw [← hm]; unfold wrap64; unfold In64 at hn; omega
      rw [e, okF_neg]
      by_cases h : okF n d = true
      · rw [if_pos h, if_pos h]
      · rw [if_neg h, if_neg h]; rfl
  have bd := floorF_bd m d
  have HV := Lib.hid hv
  have HM := Lib.hid hm
  clear hv
  go_enter Tryd.func22, Tryd.ntmps22
  go_wp2_with fail
  refine (floor_all m d _).mono ?_
  rintro e w1 ⟨rfl, hb⟩
  go_wp2_with fail
  go_ret
  exact ⟨ret_int HV.out, one1 hb⟩

end Go.Proofs.YtkdpglpdcjhhkaaDoor
