/- Contracts of fractions that stage 11 asks: Valid of the program, Add and Compare of the document. Taken out of the texts of stage 1. By the verifier's side. -/
import Derived.Test.YtombgfpheiopgaaARefO
import Derived.Lib.Small
namespace Go.Proofs.Ytombgfpheiopgaa
open Go.RowKit
set_option linter.unusedSimpArgs false

set_option maxHeartbeats 800000 in
theorem valid_out (n d : Int) (h : ¬ (1 ≤ d ∧ d ≤ 1073741824 ∧ -1073741824 ≤ n ∧ n ≤ 1073741824)) (w : World) :
    Calls Try.prog 255 #[.agg #[.int .i64 n, .int .i64 d]] w (Says (.bool (okF n d)) w) := by
  rw [okF_no n d h]
  by_cases h1 : d < 1
  · clear h
    go_enter Try.func255, Try.ntmps255
    go_wp2_with fail
    go_ret
    exact ⟨rfl, (Below.refl _ _).alloc (Nat.le_refl _) _⟩
  · by_cases h2 : 1073741824 < d
    · clear h
      go_enter Try.func255, Try.ntmps255
      go_wp2_with fail
      go_ret
      exact ⟨rfl, (Below.refl _ _).alloc (Nat.le_refl _) _⟩
    · by_cases h3 : n < -1073741824
      · clear h
        go_enter Try.func255, Try.ntmps255
        go_wp2_with fail
        go_ret
        exact ⟨rfl, (Below.refl _ _).alloc (Nat.le_refl _) _⟩
      · have h4 : 1073741824 < n := by omega
        clear h
        go_enter Try.func255, Try.ntmps255
        go_wp2_with fail
        go_ret
        exact ⟨rfl, (Below.refl _ _).alloc (Nat.le_refl _) _⟩

theorem magnitude_q (n : Int) (hn : In64 n) (w : World) :
    Calls Try.prog 239 #[.int .i64 n] w fun e w' => e = .returned (.int .u64 (n.natAbs : Int)) ∧ w' = w :=
  (magnitude_any n hn w).mono fun _ _ h => ⟨h.1, h.2.symm⟩

set_option maxHeartbeats 800000 in
theorem valid_in (n d : Int) (c : Bool) (k1 : 1 ≤ d) (k2 : d ≤ 1073741824) (k3 : -1073741824 ≤ n) (k4 : n ≤ 1073741824) (hc : (((Nat.gcd n.natAbs d.natAbs : Nat) : Int) == 1) = c) (w : World) :
    Calls Try.prog 255 #[.agg #[.int .i64 n, .int .i64 d]] w (Says (.bool c) w) := by
  have hn : In64 n := ⟨by omega, by omega⟩
  have hd : In64 d := ⟨by omega, by omega⟩
  have b1 : n.natAbs < 18446744073709551616 := by omega
  have b2 : d.natAbs < 18446744073709551616 := by omega
  go_enter Try.func255, Try.ntmps255
  go_wp2_with fail
  go_quiet ((first | (go_at_call 239; exact Calls.quiet_of_same (magnitude_q _ (by assumption) _)) | (go_at_call 240; exact Calls.quiet_of (divisor_any _ _ b1 b2 _))))
  go_wp2_with fail
  go_ret
  exact ⟨rfl, ((Below.refl _ _).alloc (Nat.le_refl _) _).drewN _⟩

/-- fraction.Valid, whatever it is given. -/
theorem valid_all (n d : Int) (c : Bool) (hc : okF n d = c) (w : World) : Calls Try.prog 255 #[.agg #[.int .i64 n, .int .i64 d]] w (Says (.bool c) w) := by
  subst hc
  by_cases h : 1 ≤ d ∧ d ≤ 1073741824 ∧ -1073741824 ≤ n ∧ n ≤ 1073741824
  · refine valid_in n d _ h.1 h.2.1 h.2.2.1 h.2.2.2 ?_ w
    rw [Bool.eq_iff_iff, okF_iff]
    simp only [beq_iff_eq]
    omega
  · exact valid_out n d h w

/-- What the four operations give. -/
def addF (n1 d1 n2 d2 : Int) : Int × Int × Int := if okF n1 d1 && okF n2 d2 then newF (n1 * d2 + n2 * d1) (d1 * d2) else (0, 0, 2)

theorem fr_mul_bd (x y : Int) (hx : -1073741824 ≤ x ∧ x ≤ 1073741824) (hy : -1073741824 ≤ y ∧ y ≤ 1073741824) : -1152921504606846976 ≤ x * y ∧ x * y ≤ 1152921504606846976 := by
  have h1 : (x * y).natAbs = x.natAbs * y.natAbs := Int.natAbs_mul x y
  have h2 : x.natAbs * y.natAbs ≤ 1073741824 * 1073741824 := Nat.mul_le_mul (by omega) (by omega)
  omega

theorem fr_three {w w1 w2 : World} {o1 o2 o3 : Obj} (hb : Below (((w.alloc o1).alloc o2).alloc o3).heap.size (((w.alloc o1).alloc o2).alloc o3) w1) (hb2 : Below w1.heap.size w1 w2) : Below w.heap.size w w2 :=
  (((((Below.refl _ _).alloc (Nat.le_refl _) o1).alloc (by simp) o2).alloc (by simp; omega) o3).trans (hb.mono (by simp; omega))).trans (hb2.mono (by have := hb.size; simp at this; omega))

theorem fr_three1 {w w1 : World} {o1 o2 o3 : Obj} (hb : Below (((w.alloc o1).alloc o2).alloc o3).heap.size (((w.alloc o1).alloc o2).alloc o3) w1) : Below w.heap.size w w1 :=
  ((((Below.refl _ _).alloc (Nat.le_refl _) o1).alloc (by simp) o2).alloc (by simp; omega) o3).trans (hb.mono (by simp; omega))

theorem fr_one1 {w w1 : World} {o1 : Obj} (hb : Below (w.alloc o1).heap.size (w.alloc o1) w1) : Below w.heap.size w w1 :=
  ((Below.refl _ _).alloc (Nat.le_refl _) o1).trans (hb.mono (by simp))

theorem fr_boxes3 {w w1 : World} {n1 d1 n2 d2 n3 d3 : Int} {t1 t2 t3 : TypeId}
    (hb : Below (((w.alloc (.cells #[.int .i64 n1, .int .i64 d1] t1)).alloc (.cells #[.int .i64 n2, .int .i64 d2] t2)).alloc (.cells #[.int .i64 n3, .int .i64 d3] t3)).heap.size (((w.alloc (.cells #[.int .i64 n1, .int .i64 d1] t1)).alloc (.cells #[.int .i64 n2, .int .i64 d2] t2)).alloc (.cells #[.int .i64 n3, .int .i64 d3] t3)) w1) :
    Box w1 w.heap.size n1 d1 ∧ Box w1 (w.heap.size + 1) n2 d2 ∧ Box w1 (w.heap.size + 1 + 1) n3 d3 := by
  have a := (((Box.new w n1 d1 t1).alloc (.cells #[.int .i64 n2, .int .i64 d2] t2)).alloc (.cells #[.int .i64 n3, .int .i64 d3] t3)).below hb
  have b := ((Box.new (w.alloc (.cells #[.int .i64 n1, .int .i64 d1] t1)) n2 d2 t2).alloc (.cells #[.int .i64 n3, .int .i64 d3] t3)).below hb
  have c := (Box.new ((w.alloc (.cells #[.int .i64 n1, .int .i64 d1] t1)).alloc (.cells #[.int .i64 n2, .int .i64 d2] t2)) n3 d3 t3).below hb
  rw [show (w.alloc (.cells #[.int .i64 n1, .int .i64 d1] t1)).heap.size = w.heap.size + 1 from by simp] at b
  rw [show ((w.alloc (.cells #[.int .i64 n1, .int .i64 d1] t1)).alloc (.cells #[.int .i64 n2, .int .i64 d2] t2)).heap.size = w.heap.size + 1 + 1 from by simp] at c
  exact ⟨a, b, c⟩

theorem fr_up2 (n : Nat) : n ≤ n + 1 + 1 := by omega

/-- What New gives for small numbers. -/
theorem newF_small (num den : Int) (h1 : 1 ≤ den) (h2 : den ≤ 1073741824) (h3 : -1073741824 ≤ num ∧ num ≤ 1073741824) :
    ∃ sn sd, newF num den = (sn, sd, 0) ∧ okF sn sd = true ∧ sn * den = num * sd ∧ (sn < 0 ↔ num < 0) ∧ (sn = 0 ↔ num = 0) ∧ sn.natAbs ≤ num.natAbs ∧ sd ≤ den := by
  obtain ⟨D, hD⟩ := Int.eq_ofNat_of_zero_le (show 0 ≤ den by omega)
  obtain ⟨N, hN⟩ : ∃ N, num.natAbs = N := ⟨_, rfl⟩
  obtain ⟨g, hg⟩ : ∃ g, Nat.gcd N D = g := ⟨_, rfl⟩
  have hDn : den.natAbs = D := by omega
  have hD0 : 0 < D := by omega
  have hg0 : 0 < g := by rw [← hg]; exact Nat.gcd_pos_of_pos_right N hD0
  have hgN : g ∣ N := by rw [← hg]; exact Nat.gcd_dvd_left N D
  have hgD : g ∣ D := by rw [← hg]; exact Nat.gcd_dvd_right N D
  obtain ⟨p, hp⟩ := hgN
  obtain ⟨q, hq⟩ := hgD
  have eN : N / g = p := by rw [hp, Nat.mul_div_cancel_left _ hg0]
  have eD : D / g = q := by rw [hq, Nat.mul_div_cancel_left _ hg0]
  have hq0 : 0 < q := by
    rcases Nat.eq_zero_or_pos q with h | h
    · subst h; omega
    · exact h
  have hpN : p ≤ N := by rw [← eN]; exact Nat.div_le_self _ _
  have hqD : q ≤ D := by rw [← eD]; exact Nat.div_le_self _ _
  have hpq : Nat.gcd p q = 1 := by
    have h := Nat.gcd_div (k := g) ⟨p, hp⟩ ⟨q, hq⟩
    rw [eN, eD, hg, Nat.div_self hg0] at h
    exact h
  have hfit := newF_fit (num := num) (den := den) (n := N) (d := D) (g := g) (by omega) hN hDn hg (by rw [eN]; omega) (by rw [eD]; omega)
  rw [eN, eD] at hfit
  have d2 : decide (den < 0) = false := by simp; omega
  have hpp : p = 0 ↔ N = 0 := by
    constructor
    · intro h; rw [hp, h]; simp
    · intro h
      rw [h] at hp
      rcases Nat.mul_eq_zero.1 hp.symm with h' | h'
      · omega
      · exact h'
  by_cases s : num < 0
  · rw [if_neg (by rw [d2]; simp [s])] at hfit
    refine ⟨_, _, hfit, ?_, ?_, ?_, ?_, by omega, by omega⟩
    · rw [okF_iff]
      refine ⟨by omega, by omega, by omega, by omega, ?_⟩
      rw [Int.natAbs_neg]; exact hpq
    · have e1 : num = -((g * p : Nat) : Int) := by omega
      have e2 : den = ((g * q : Nat) : Int) := by omega
      rw [e1, e2]
      push_cast
      rw [Int.neg_mul, Int.neg_mul, Int.mul_assoc, Int.mul_left_comm]
    · constructor
      · intro _; exact s
      · intro _; have : p ≠ 0 := fun h => by have := hpp.1 h; omega
        omega
    · constructor
      · intro h; have := hpp.1 (by omega); omega
      · intro h; omega
  · rw [if_pos (by rw [d2]; simp; omega)] at hfit
    refine ⟨_, _, hfit, ?_, ?_, ?_, ?_, by omega, by omega⟩
    · rw [okF_iff]
      exact ⟨by omega, by omega, by omega, by omega, hpq⟩
    · have e1 : num = ((g * p : Nat) : Int) := by omega
      have e2 : den = ((g * q : Nat) : Int) := by omega
      rw [e1, e2]
      push_cast
      rw [Int.mul_assoc, Int.mul_left_comm]
    · constructor
      · intro h; omega
      · intro h; omega
    · constructor
      · intro h; have := hpp.1 (by omega); omega
      · intro h; have := hpp.2 (by omega); omega

set_option maxHeartbeats 1600000 in
theorem radd_all (n1 d1 n2 d2 : Int) (w : World) :
    Calls Try.prog 87 #[.agg #[.int .i64 n1, .int .i64 d1], .agg #[.int .i64 n2, .int .i64 d2]] w (Gave (addF n1 d1 n2 d2) w) := by
  unfold addF
  cases h1 : okF n1 d1
  · have H1 := Lib.hid h1
    clear h1
    go_enter Try.func87, Try.ntmps87
    go_wp2_with fail
    refine (frvalid_any n1 d1 _ H1.out _).mono ?_
    rintro e w1 ⟨rfl, hb⟩
    obtain ⟨A1, B1, R1⟩ := fr_boxes3 hb
    have HA1 := Lib.hid A1
    have HB1 := Lib.hid B1
    have HR1 := Lib.hid R1
    obtain ⟨a0, a1, _, _⟩ := A1
    obtain ⟨b0, b1, _, _⟩ := B1
    obtain ⟨r0, r1, r2, r3⟩ := R1
    go_wp2_with fail
    refine bodyPost_ret (v := .tuple #[.agg #[.int .i64 0, .int .i64 0], .int .i64 2]) (by simp [results, Try.results87, go_sem, r0, r1, r2, r3]) rfl ⟨rfl, ?_⟩
    exact ((fr_three1 hb).setCell (fr_up2 _) _).setCell (fr_up2 _) _
  · cases h2 : okF n2 d2
    · have H1 := Lib.hid h1
      have H2 := Lib.hid h2
      clear h1 h2
      go_enter Try.func87, Try.ntmps87
      go_wp2_with fail
      refine (frvalid_any n1 d1 _ H1.out _).mono ?_
      rintro e w1 ⟨rfl, hb⟩
      obtain ⟨A1, B1, R1⟩ := fr_boxes3 hb
      have HA1 := Lib.hid A1
      have HB1 := Lib.hid B1
      have HR1 := Lib.hid R1
      obtain ⟨a0, a1, _, _⟩ := A1
      obtain ⟨b0, b1, _, _⟩ := B1
      obtain ⟨r0, r1, r2, r3⟩ := R1
      go_wp2_with fail
      refine (frvalid_any n2 d2 _ H2.out _).mono ?_
      rintro e w2 ⟨rfl, hb2⟩
      clear a0 a1 b0 b1 r0 r1 r2 r3
      have HA2 := Lib.hid (HA1.out.below hb2)
      have HB2 := Lib.hid (HB1.out.below hb2)
      have HR2 := Lib.hid (HR1.out.below hb2)
      obtain ⟨a0, a1, _, _⟩ := HA2.out
      obtain ⟨b0, b1, _, _⟩ := HB2.out
      obtain ⟨r0, r1, r2, r3⟩ := HR2.out
      go_wp2_with fail
      refine bodyPost_ret (v := .tuple #[.agg #[.int .i64 0, .int .i64 0], .int .i64 2]) (by simp [results, Try.results87, go_sem, r0, r1, r2, r3]) rfl ⟨rfl, ?_⟩
      exact ((fr_three hb hb2).setCell (fr_up2 _) _).setCell (fr_up2 _) _
    · have H1 := Lib.hid h1
      have H2 := Lib.hid h2
      rw [okF_iff] at h1 h2
      have m1 := fr_mul_bd n1 d2 (by omega) (by omega)
      have m2 := fr_mul_bd n2 d1 (by omega) (by omega)
      have m3 := fr_mul_bd d1 d2 (by omega) (by omega)
      clear h1 h2
      rw [if_pos (show (true && true) = true from rfl)]
      generalize hr : newF (n1 * d2 + n2 * d1) (d1 * d2) = r
      have HR := Lib.hid hr
      clear hr
      obtain ⟨rn, rd, re⟩ := r
      go_enter Try.func87, Try.ntmps87
      go_wp2_with fail
      refine (frvalid_any n1 d1 _ H1.out _).mono ?_
      rintro e w1 ⟨rfl, hb⟩
      obtain ⟨A1, B1, R1⟩ := fr_boxes3 hb
      have HA1 := Lib.hid A1
      have HB1 := Lib.hid B1
      have HR1 := Lib.hid R1
      obtain ⟨a0, a1, _, _⟩ := A1
      obtain ⟨b0, b1, _, _⟩ := B1
      obtain ⟨r0, r1, r2, r3⟩ := R1
      go_wp2_with fail
      refine (frvalid_any n2 d2 _ H2.out _).mono ?_
      rintro e w2 ⟨rfl, hb2⟩
      clear a0 a1 b0 b1 r0 r1 r2 r3
      have HA2 := Lib.hid (HA1.out.below hb2)
      have HB2 := Lib.hid (HB1.out.below hb2)
      have HR2 := Lib.hid (HR1.out.below hb2)
      obtain ⟨a0, a1, _, _⟩ := HA2.out
      obtain ⟨b0, b1, _, _⟩ := HB2.out
      obtain ⟨r0, r1, r2, r3⟩ := HR2.out
      go_wp2_with fail
      refine (rnew_all _ _ ⟨by omega, by omega⟩ ⟨by omega, by omega⟩ _).mono ?_
      rintro e w3 ⟨he, hb3⟩
      rw [HR.out] at he
      subst he
      clear a0 a1 b0 b1 r0 r1 r2 r3
      obtain ⟨r0, r1, r2, r3⟩ := HR2.out.below hb3
      go_wp2_with fail
      refine bodyPost_ret (v := .tuple #[.agg #[.int .i64 rn, .int .i64 rd], .int .i64 re]) (by simp [results, Try.results87, go_sem, r0, r1, r2, r3]) rfl ⟨rfl, ?_⟩
      exact (((fr_three hb hb2).trans (hb3.mono (fr_three hb hb2).size)).setCell (fr_up2 _) _).setCell (fr_up2 _) _
