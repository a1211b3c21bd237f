/- Contracts of package fraction: Valid, bothValid, Compare, Add, Sub, Mul, Div, Floor, Ceil. By the verifier's side. -/
import Derived.Test.YtkdpglpdcjhhkaaDoorNum
import Derived.Test.YtkdpglpdcjhhkaaDoorShelf
namespace Go.Proofs.YtkdpglpdcjhhkaaDoor
open Go.RowKit
set_option linter.unusedSimpArgs false

theorem okF_iff (n d : Int) : okF n d = true ↔ 1 ≤ d ∧ d ≤ 1073741824 ∧ -1073741824 ≤ n ∧ n ≤ 1073741824 ∧ Nat.gcd n.natAbs d.natAbs = 1 := by
  unfold okF; simp

theorem okF_no (n d : Int) (h : ¬ (1 ≤ d ∧ d ≤ 1073741824 ∧ -1073741824 ≤ n ∧ n ≤ 1073741824)) : okF n d = false := by
  rw [Bool.eq_false_iff]; intro e; rw [okF_iff] at e; exact h ⟨e.1, e.2.1, e.2.2.1, e.2.2.2.1⟩

set_option maxHeartbeats 800000 in
theorem valid_out (n d : Int) (h : ¬ (1 ≤ d ∧ d ≤ 1073741824 ∧ -1073741824 ≤ n ∧ n ≤ 1073741824)) (w : World) :
    Calls Tryd.prog 18 #[.agg #[.int .i64 n, .int .i64 d]] w (Says (.bool (okF n d)) w) := by
  rw [okF_no n d h]
  by_cases h1 : d < 1
  · clear h
    go_enter Tryd.func18, Tryd.ntmps18
    go_wp2_with fail
    go_ret
    exact ⟨rfl, (Below.refl _ _).alloc (Nat.le_refl _) _⟩
  · by_cases h2 : 1073741824 < d
    · clear h
      go_enter Tryd.func18, Tryd.ntmps18
      go_wp2_with fail
      go_ret
      exact ⟨rfl, (Below.refl _ _).alloc (Nat.le_refl _) _⟩
    · by_cases h3 : n < -1073741824
      · clear h
        go_enter Tryd.func18, Tryd.ntmps18
        go_wp2_with fail
        go_ret
        exact ⟨rfl, (Below.refl _ _).alloc (Nat.le_refl _) _⟩
      · have h4 : 1073741824 < n := by omega
        clear h
        go_enter Tryd.func18, Tryd.ntmps18
        go_wp2_with fail
        go_ret
        exact ⟨rfl, (Below.refl _ _).alloc (Nat.le_refl _) _⟩

theorem magnitude_q (n : Int) (hn : In64 n) (w : World) :
    Calls Tryd.prog 40 #[.int .i64 n] w fun e w' => e = .returned (.int .u64 (n.natAbs : Int)) ∧ w' = w :=
  (magnitude_any n hn w).mono fun _ _ h => ⟨h.1, h.2.symm⟩

set_option maxHeartbeats 800000 in
theorem valid_in (n d : Int) (c : Bool) (k1 : 1 ≤ d) (k2 : d ≤ 1073741824) (k3 : -1073741824 ≤ n) (k4 : n ≤ 1073741824) (hc : (((Nat.gcd n.natAbs d.natAbs : Nat) : Int) == 1) = c) (w : World) :
    Calls Tryd.prog 18 #[.agg #[.int .i64 n, .int .i64 d]] w (Says (.bool c) w) := by
  have hn : In64 n := ⟨by omega, by omega⟩
  have hd : In64 d := ⟨by omega, by omega⟩
  have b1 : n.natAbs < 18446744073709551616 := by omega
  have b2 : d.natAbs < 18446744073709551616 := by omega
  go_enter Tryd.func18, Tryd.ntmps18
  go_wp2_with fail
  go_quiet ((first | (go_at_call 40; exact Calls.quiet_of_same (magnitude_q _ (by assumption) _)) | (go_at_call 41; exact Calls.quiet_of (divisor_any _ _ b1 b2 _))))
  go_wp2_with fail
  go_ret
  exact ⟨rfl, ((Below.refl _ _).alloc (Nat.le_refl _) _).drewN _⟩

/-- fraction.Valid, whatever it is given. -/
theorem valid_all (n d : Int) (c : Bool) (hc : okF n d = c) (w : World) : Calls Tryd.prog 18 #[.agg #[.int .i64 n, .int .i64 d]] w (Says (.bool c) w) := by
  subst hc
  by_cases h : 1 ≤ d ∧ d ≤ 1073741824 ∧ -1073741824 ≤ n ∧ n ≤ 1073741824
  · refine valid_in n d _ h.1 h.2.1 h.2.2.1 h.2.2.2 ?_ w
    rw [Bool.eq_iff_iff, okF_iff]
    simp only [beq_iff_eq]
    omega
  · exact valid_out n d h w

set_option maxHeartbeats 800000 in
theorem both_all (n1 d1 n2 d2 : Int) (c1 c2 : Bool) (h1 : okF n1 d1 = c1) (h2 : okF n2 d2 = c2) (w : World) :
    Calls Tryd.prog 46 #[.agg #[.int .i64 n1, .int .i64 d1], .agg #[.int .i64 n2, .int .i64 d2]] w (Says (.bool (c1 && c2)) w) := by
  have H1 := Lib.hid h1
  have H2 := Lib.hid h2
  clear h1 h2
  cases c1
  · go_enter Tryd.func46, Tryd.ntmps46
    go_wp2_with fail
    refine (valid_all n1 d1 _ H1.out _).mono ?_
    rintro e w1 ⟨rfl, hb⟩
    go_wp2_with fail
    go_ret
    exact ⟨rfl, (((Below.refl _ _).alloc (Nat.le_refl _) _).alloc (by simp) _).trans (hb.mono (by simp; omega))⟩
  · go_enter Tryd.func46, Tryd.ntmps46
    go_wp2_with fail
    refine (valid_all n1 d1 _ H1.out _).mono ?_
    rintro e w1 ⟨rfl, hb⟩
    obtain ⟨hc, hf⟩ := bcell hb
    go_wp2_with fail
    refine (valid_all n2 d2 _ H2.out _).mono ?_
    rintro e w2 ⟨rfl, hb2⟩
    go_wp2_with fail
    go_ret
    have hz := hb.size
    simp at hz
    exact ⟨rfl, ((((Below.refl _ _).alloc (Nat.le_refl _) _).alloc (by simp) _).trans (hb.mono (by simp; omega))).trans (hb2.mono (by omega))⟩

/-- What the four operations give. -/
def addF (n1 d1 n2 d2 : Int) : Int × Int × Int := if okF n1 d1 && okF n2 d2 then newF (n1 * d2 + n2 * d1) (d1 * d2) else (0, 0, 2)
def subF (n1 d1 n2 d2 : Int) : Int × Int × Int := if okF n1 d1 && okF n2 d2 then newF (n1 * d2 - n2 * d1) (d1 * d2) else (0, 0, 2)
def mulF (n1 d1 n2 d2 : Int) : Int × Int × Int := if okF n1 d1 && okF n2 d2 then newF (n1 * n2) (d1 * d2) else (0, 0, 2)
def divF (n1 d1 n2 d2 : Int) : Int × Int × Int := if okF n1 d1 && okF n2 d2 then newF (n1 * d2) (d1 * n2) else (0, 0, 2)

theorem mul_bd (x y : Int) (hx : -1073741824 ≤ x ∧ x ≤ 1073741824) (hy : -1073741824 ≤ y ∧ y ≤ 1073741824) : -1152921504606846976 ≤ x * y ∧ x * y ≤ 1152921504606846976 := by
  have h1 : (x * y).natAbs = x.natAbs * y.natAbs := Int.natAbs_mul x y
  have h2 : x.natAbs * y.natAbs ≤ 1073741824 * 1073741824 := Nat.mul_le_mul (by omega) (by omega)
  omega

theorem three {w w1 w2 : World} {o1 o2 o3 : Obj} (hb : Below (((w.alloc o1).alloc o2).alloc o3).heap.size (((w.alloc o1).alloc o2).alloc o3) w1) (hb2 : Below w1.heap.size w1 w2) : Below w.heap.size w w2 :=
  (((((Below.refl _ _).alloc (Nat.le_refl _) o1).alloc (by simp) o2).alloc (by simp; omega) o3).trans (hb.mono (by simp; omega))).trans (hb2.mono (by have := hb.size; simp at this; omega))
theorem three1 {w w1 : World} {o1 o2 o3 : Obj} (hb : Below (((w.alloc o1).alloc o2).alloc o3).heap.size (((w.alloc o1).alloc o2).alloc o3) w1) : Below w.heap.size w w1 :=
  ((((Below.refl _ _).alloc (Nat.le_refl _) o1).alloc (by simp) o2).alloc (by simp; omega) o3).trans (hb.mono (by simp; omega))

set_option maxHeartbeats 1600000 in
theorem add_yes (n1 d1 n2 d2 : Int) (h1 : okF n1 d1 = true) (h2 : okF n2 d2 = true) (w : World) :
    Calls Tryd.prog 25 #[.agg #[.int .i64 n1, .int .i64 d1], .agg #[.int .i64 n2, .int .i64 d2]] w (Gave (newF (n1 * d2 + n2 * d1) (d1 * d2)) w) := by
  have H1 := Lib.hid h1
  have H2 := Lib.hid h2
  rw [okF_iff] at h1 h2
  have m1 := mul_bd n1 d2 (by omega) (by omega)
  have m2 := mul_bd n2 d1 (by omega) (by omega)
  have m3 := mul_bd d1 d2 (by omega) (by omega)
  clear h1 h2
  generalize hr : newF (n1 * d2 + n2 * d1) (d1 * d2) = r
  have HR := Lib.hid hr
  clear hr
  obtain ⟨rn, rd, re⟩ := r
  go_enter Tryd.func25, Tryd.ntmps25
  go_wp2_with fail
  refine (both_all n1 d1 n2 d2 _ _ H1.out H2.out _).mono ?_
  rintro e w1 ⟨rfl, hb⟩
  obtain ⟨hc, hf⟩ := bcell hb
  have hz : w.heap.size + 2 < w1.heap.size := by have := hb.size; simp at this; omega
  go_wp2_with fail
  refine (new_all _ _ ⟨by omega, by omega⟩ ⟨by omega, by omega⟩ _).mono ?_
  rintro e w2 ⟨rfl, hb2⟩
  rw [HR.out]
  obtain ⟨hc2, hf2⟩ := bcell hb2
  have hz2 : w.heap.size + 2 < w2.heap.size := by have := hb2.size; omega
  go_wp2_with fail
  refine bodyPost_ret (v := .tuple #[.agg #[.int .i64 rn, .int .i64 rd], .int .i64 re]) (by simp [results, Tryd.results25, go_sem, hc2, hf2, hc, hf, hz, hz2]) rfl ⟨rfl, ?_⟩
  exact ((three hb hb2).setCell (by simp; omega) _).setCell (by simp; omega) _

set_option maxHeartbeats 800000 in
theorem add_no (n1 d1 n2 d2 : Int) (h : (okF n1 d1 && okF n2 d2) = false) (w : World) :
    Calls Tryd.prog 25 #[.agg #[.int .i64 n1, .int .i64 d1], .agg #[.int .i64 n2, .int .i64 d2]] w (Gave (0, 0, 2) w) := by
  have H := Lib.hid h
  clear h
  go_enter Tryd.func25, Tryd.ntmps25
  go_wp2_with fail
  refine (both_all n1 d1 n2 d2 _ _ rfl rfl _).mono ?_
  rintro e w1 ⟨he, hb⟩
  rw [H.out] at he
  subst he
  obtain ⟨hc, hf⟩ := bcell hb
  have hz : w.heap.size + 2 < w1.heap.size := by have := hb.size; simp at this; omega
  go_wp2_with fail
  refine bodyPost_ret (v := .tuple #[.agg #[.int .i64 0, .int .i64 0], .int .i64 2]) (by simp [results, Tryd.results25, go_sem, hc, hf, hz]) rfl ⟨rfl, ?_⟩
  exact ((three1 hb).setCell (by simp; omega) _).setCell (by simp; omega) _

theorem add_all (n1 d1 n2 d2 : Int) (w : World) :
    Calls Tryd.prog 25 #[.agg #[.int .i64 n1, .int .i64 d1], .agg #[.int .i64 n2, .int .i64 d2]] w (Gave (addF n1 d1 n2 d2) w) := by
  unfold addF
  by_cases h : (okF n1 d1 && okF n2 d2) = true
  · rw [if_pos h]
    rw [Bool.and_eq_true] at h
    exact add_yes n1 d1 n2 d2 h.1 h.2 w
  · rw [if_neg h]
    exact add_no n1 d1 n2 d2 (by simpa using h) w

set_option maxHeartbeats 1600000 in
theorem sub_yes (n1 d1 n2 d2 : Int) (h1 : okF n1 d1 = true) (h2 : okF n2 d2 = true) (w : World) :
    Calls Tryd.prog 27 #[.agg #[.int .i64 n1, .int .i64 d1], .agg #[.int .i64 n2, .int .i64 d2]] w (Gave (newF (n1 * d2 - n2 * d1) (d1 * d2)) w) := by
  have H1 := Lib.hid h1
  have H2 := Lib.hid h2
  rw [okF_iff] at h1 h2
  have m1 := mul_bd n1 d2 (by omega) (by omega)
  have m2 := mul_bd n2 d1 (by omega) (by omega)
  have m3 := mul_bd d1 d2 (by omega) (by omega)
  clear h1 h2
  generalize hr : newF (n1 * d2 - n2 * d1) (d1 * d2) = r
  have HR := Lib.hid hr
  clear hr
  obtain ⟨rn, rd, re⟩ := r
  go_enter Tryd.func27, Tryd.ntmps27
  go_wp2_with fail
  refine (both_all n1 d1 n2 d2 _ _ H1.out H2.out _).mono ?_
  rintro e w1 ⟨rfl, hb⟩
  obtain ⟨hc, hf⟩ := bcell hb
  have hz : w.heap.size + 2 < w1.heap.size := by have := hb.size; simp at this; omega
  go_wp2_with fail
  refine (new_all _ _ ⟨by omega, by omega⟩ ⟨by omega, by omega⟩ _).mono ?_
  rintro e w2 ⟨rfl, hb2⟩
  rw [HR.out]
  obtain ⟨hc2, hf2⟩ := bcell hb2
  have hz2 : w.heap.size + 2 < w2.heap.size := by have := hb2.size; omega
  go_wp2_with fail
  refine bodyPost_ret (v := .tuple #[.agg #[.int .i64 rn, .int .i64 rd], .int .i64 re]) (by simp [results, Tryd.results27, go_sem, hc2, hf2, hc, hf, hz, hz2]) rfl ⟨rfl, ?_⟩
  exact ((three hb hb2).setCell (by simp; omega) _).setCell (by simp; omega) _

set_option maxHeartbeats 800000 in
theorem sub_no (n1 d1 n2 d2 : Int) (h : (okF n1 d1 && okF n2 d2) = false) (w : World) :
    Calls Tryd.prog 27 #[.agg #[.int .i64 n1, .int .i64 d1], .agg #[.int .i64 n2, .int .i64 d2]] w (Gave (0, 0, 2) w) := by
  have H := Lib.hid h
  clear h
  go_enter Tryd.func27, Tryd.ntmps27
  go_wp2_with fail
  refine (both_all n1 d1 n2 d2 _ _ rfl rfl _).mono ?_
  rintro e w1 ⟨he, hb⟩
  rw [H.out] at he
  subst he
  obtain ⟨hc, hf⟩ := bcell hb
  have hz : w.heap.size + 2 < w1.heap.size := by have := hb.size; simp at this; omega
  go_wp2_with fail
  refine bodyPost_ret (v := .tuple #[.agg #[.int .i64 0, .int .i64 0], .int .i64 2]) (by simp [results, Tryd.results27, go_sem, hc, hf, hz]) rfl ⟨rfl, ?_⟩
  exact ((three1 hb).setCell (by simp; omega) _).setCell (by simp; omega) _

theorem sub_all (n1 d1 n2 d2 : Int) (w : World) :
    Calls Tryd.prog 27 #[.agg #[.int .i64 n1, .int .i64 d1], .agg #[.int .i64 n2, .int .i64 d2]] w (Gave (subF n1 d1 n2 d2) w) := by
  unfold subF
  by_cases h : (okF n1 d1 && okF n2 d2) = true
  · rw [if_pos h]
    rw [Bool.and_eq_true] at h
    exact sub_yes n1 d1 n2 d2 h.1 h.2 w
  · rw [if_neg h]
    exact sub_no n1 d1 n2 d2 (by simpa using h) w

set_option maxHeartbeats 1600000 in
theorem mul_yes (n1 d1 n2 d2 : Int) (h1 : okF n1 d1 = true) (h2 : okF n2 d2 = true) (w : World) :
    Calls Tryd.prog 31 #[.agg #[.int .i64 n1, .int .i64 d1], .agg #[.int .i64 n2, .int .i64 d2]] w (Gave (newF (n1 * n2) (d1 * d2)) w) := by
  have H1 := Lib.hid h1
  have H2 := Lib.hid h2
  rw [okF_iff] at h1 h2
  have m1 := mul_bd n1 n2 (by omega) (by omega)
  have m2 := mul_bd d1 d2 (by omega) (by omega)
  clear h1 h2
  generalize hr : newF (n1 * n2) (d1 * d2) = r
  have HR := Lib.hid hr
  clear hr
  obtain ⟨rn, rd, re⟩ := r
  go_enter Tryd.func31, Tryd.ntmps31
  go_wp2_with fail
  refine (both_all n1 d1 n2 d2 _ _ H1.out H2.out _).mono ?_
  rintro e w1 ⟨rfl, hb⟩
  obtain ⟨hc, hf⟩ := bcell hb
  have hz : w.heap.size + 2 < w1.heap.size := by have := hb.size; simp at this; omega
  go_wp2_with fail
  refine (new_all _ _ ⟨by omega, by omega⟩ ⟨by omega, by omega⟩ _).mono ?_
  rintro e w2 ⟨rfl, hb2⟩
  rw [HR.out]
  obtain ⟨hc2, hf2⟩ := bcell hb2
  have hz2 : w.heap.size + 2 < w2.heap.size := by have := hb2.size; omega
  go_wp2_with fail
  refine bodyPost_ret (v := .tuple #[.agg #[.int .i64 rn, .int .i64 rd], .int .i64 re]) (by simp [results, Tryd.results31, go_sem, hc2, hf2, hc, hf, hz, hz2]) rfl ⟨rfl, ?_⟩
  exact ((three hb hb2).setCell (by simp; omega) _).setCell (by simp; omega) _

set_option maxHeartbeats 800000 in
theorem mul_no (n1 d1 n2 d2 : Int) (h : (okF n1 d1 && okF n2 d2) = false) (w : World) :
    Calls Tryd.prog 31 #[.agg #[.int .i64 n1, .int .i64 d1], .agg #[.int .i64 n2, .int .i64 d2]] w (Gave (0, 0, 2) w) := by
  have H := Lib.hid h
  clear h
  go_enter Tryd.func31, Tryd.ntmps31
  go_wp2_with fail
  refine (both_all n1 d1 n2 d2 _ _ rfl rfl _).mono ?_
  rintro e w1 ⟨he, hb⟩
  rw [H.out] at he
  subst he
  obtain ⟨hc, hf⟩ := bcell hb
  have hz : w.heap.size + 2 < w1.heap.size := by have := hb.size; simp at this; omega
  go_wp2_with fail
  refine bodyPost_ret (v := .tuple #[.agg #[.int .i64 0, .int .i64 0], .int .i64 2]) (by simp [results, Tryd.results31, go_sem, hc, hf, hz]) rfl ⟨rfl, ?_⟩
  exact ((three1 hb).setCell (by simp; omega) _).setCell (by simp; omega) _

theorem mul_all (n1 d1 n2 d2 : Int) (w : World) :
    Calls Tryd.prog 31 #[.agg #[.int .i64 n1, .int .i64 d1], .agg #[.int .i64 n2, .int .i64 d2]] w (Gave (mulF n1 d1 n2 d2) w) := by
  unfold mulF
  by_cases h : (okF n1 d1 && okF n2 d2) = true
  · rw [if_pos h]
    rw [Bool.and_eq_true] at h
    exact mul_yes n1 d1 n2 d2 h.1 h.2 w
  · rw [if_neg h]
    exact mul_no n1 d1 n2 d2 (by simpa using h) w

set_option maxHeartbeats 1600000 in
theorem div_yes (n1 d1 n2 d2 : Int) (h1 : okF n1 d1 = true) (h2 : okF n2 d2 = true) (w : World) :
    Calls Tryd.prog 33 #[.agg #[.int .i64 n1, .int .i64 d1], .agg #[.int .i64 n2, .int .i64 d2]] w (Gave (newF (n1 * d2) (d1 * n2)) w) := by
  have H1 := Lib.hid h1
  have H2 := Lib.hid h2
  rw [okF_iff] at h1 h2
  have m1 := mul_bd n1 d2 (by omega) (by omega)
  have m2 := mul_bd d1 n2 (by omega) (by omega)
  clear h1 h2
  generalize hr : newF (n1 * d2) (d1 * n2) = r
  have HR := Lib.hid hr
  clear hr
  obtain ⟨rn, rd, re⟩ := r
  go_enter Tryd.func33, Tryd.ntmps33
  go_wp2_with fail
  refine (both_all n1 d1 n2 d2 _ _ H1.out H2.out _).mono ?_
  rintro e w1 ⟨rfl, hb⟩
  obtain ⟨hc, hf⟩ := bcell hb
  have hz : w.heap.size + 2 < w1.heap.size := by have := hb.size; simp at this; omega
  go_wp2_with fail
  refine (new_all _ _ ⟨by omega, by omega⟩ ⟨by omega, by omega⟩ _).mono ?_
  rintro e w2 ⟨rfl, hb2⟩
  rw [HR.out]
  obtain ⟨hc2, hf2⟩ := bcell hb2
  have hz2 : w.heap.size + 2 < w2.heap.size := by have := hb2.size; omega
  go_wp2_with fail
  refine bodyPost_ret (v := .tuple #[.agg #[.int .i64 rn, .int .i64 rd], .int .i64 re]) (by simp [results, Tryd.results33, go_sem, hc2, hf2, hc, hf, hz, hz2]) rfl ⟨rfl, ?_⟩
  exact ((three hb hb2).setCell (by simp; omega) _).setCell (by simp; omega) _

set_option maxHeartbeats 800000 in
theorem div_no (n1 d1 n2 d2 : Int) (h : (okF n1 d1 && okF n2 d2) = false) (w : World) :
    Calls Tryd.prog 33 #[.agg #[.int .i64 n1, .int .i64 d1], .agg #[.int .i64 n2, .int .i64 d2]] w (Gave (0, 0, 2) w) := by
  have H := Lib.hid h
  clear h
  go_enter Tryd.func33, Tryd.ntmps33
  go_wp2_with fail
  refine (both_all n1 d1 n2 d2 _ _ rfl rfl _).mono ?_
  rintro e w1 ⟨he, hb⟩
  rw [H.out] at he
  subst he
  obtain ⟨hc, hf⟩ := bcell hb
  have hz : w.heap.size + 2 < w1.heap.size := by have := hb.size; simp at this; omega
  go_wp2_with fail
  refine bodyPost_ret (v := .tuple #[.agg #[.int .i64 0, .int .i64 0], .int .i64 2]) (by simp [results, Tryd.results33, go_sem, hc, hf, hz]) rfl ⟨rfl, ?_⟩
  exact ((three1 hb).setCell (by simp; omega) _).setCell (by simp; omega) _

theorem div_all (n1 d1 n2 d2 : Int) (w : World) :
    Calls Tryd.prog 33 #[.agg #[.int .i64 n1, .int .i64 d1], .agg #[.int .i64 n2, .int .i64 d2]] w (Gave (divF n1 d1 n2 d2) w) := by
  unfold divF
  by_cases h : (okF n1 d1 && okF n2 d2) = true
  · rw [if_pos h]
    rw [Bool.and_eq_true] at h
    exact div_yes n1 d1 n2 d2 h.1 h.2 w
  · rw [if_neg h]
    exact div_no n1 d1 n2 d2 (by simpa using h) w

end Go.Proofs.YtkdpglpdcjhhkaaDoor
