/- Contracts of fractions that stage 11 asks: Valid of the program, Add and Compare of the document. Taken out of the texts of stage 1. By the verifier's side. -/
import Derived.Test.YtjipmkgnndldpaaERefO
import Derived.Lib.Small
import Derived.Test.YtjipmkgnndldpaaEMathNumCurTCurveGrowsW
namespace Go.Proofs.Ytjipmkgnndldpaa
open Go.RowKit
set_option linter.unusedSimpArgs false

set_option maxHeartbeats 800000 in
theorem valid_out (n d : Int) (h : ¬ (1 ≤ d ∧ d ≤ 1073741824 ∧ -1073741824 ≤ n ∧ n ≤ 1073741824)) (w : World) :
    Calls Try.prog 195 #[.agg #[.int .i64 n, .int .i64 d]] w (Says (.bool (okF n d)) w) := by
  rw [okF_no n d h]
  by_cases h1 : d < 1
  · clear h
    go_enter Try.func195, Try.ntmps195
    go_wp2_with fail
    go_ret
    exact ⟨rfl, (Below.refl _ _).alloc (Nat.le_refl _) _⟩
  · by_cases h2 : 1073741824 < d
    · clear h
      go_enter Try.func195, Try.ntmps195
      go_wp2_with fail
      go_ret
      exact ⟨rfl, (Below.refl _ _).alloc (Nat.le_refl _) _⟩
    · by_cases h3 : n < -1073741824
      · clear h
        go_enter Try.func195, Try.ntmps195
        go_wp2_with fail
        go_ret
        exact ⟨rfl, (Below.refl _ _).alloc (Nat.le_refl _) _⟩
      · have h4 : 1073741824 < n := by omega
        clear h
        go_enter Try.func195, Try.ntmps195
        go_wp2_with fail
        go_ret
        exact ⟨rfl, (Below.refl _ _).alloc (Nat.le_refl _) _⟩

theorem magnitude_q (n : Int) (hn : In64 n) (w : World) :
    Calls Try.prog 268 #[.int .i64 n] w fun e w' => e = .returned (.int .u64 (n.natAbs : Int)) ∧ w' = w :=
  (magnitude_any n hn w).mono fun _ _ h => ⟨h.1, h.2.symm⟩

set_option maxHeartbeats 800000 in
theorem valid_in (n d : Int) (c : Bool) (k1 : 1 ≤ d) (k2 : d ≤ 1073741824) (k3 : -1073741824 ≤ n) (k4 : n ≤ 1073741824) (hc : (((Nat.gcd n.natAbs d.natAbs : Nat) : Int) == 1) = c) (w : World) :
    Calls Try.prog 195 #[.agg #[.int .i64 n, .int .i64 d]] w (Says (.bool c) w) := by
  have hn : In64 n := ⟨by omega, by omega⟩
  have hd : In64 d := ⟨by omega, by omega⟩
  have b1 : n.natAbs < 18446744073709551616 := by omega
  have b2 : d.natAbs < 18446744073709551616 := by omega
  go_enter Try.func195, Try.ntmps195
  go_wp2_with fail
  go_quiet ((first | (go_at_call 268; exact Calls.quiet_of_same (magnitude_q _ (by assumption) _)) | (go_at_call 267; exact Calls.quiet_of (divisor_any _ _ b1 b2 _))))
  go_wp2_with fail
  go_ret
  exact ⟨rfl, ((Below.refl _ _).alloc (Nat.le_refl _) _).drewN _⟩

/-- fraction.Valid, whatever it is given. -/
theorem valid_all (n d : Int) (c : Bool) (hc : okF n d = c) (w : World) : Calls Try.prog 195 #[.agg #[.int .i64 n, .int .i64 d]] w (Says (.bool c) w) := by
  subst hc
  by_cases h : 1 ≤ d ∧ d ≤ 1073741824 ∧ -1073741824 ≤ n ∧ n ≤ 1073741824
  · refine valid_in n d _ h.1 h.2.1 h.2.2.1 h.2.2.2 ?_ w
    rw [Bool.eq_iff_iff, okF_iff]
    simp only [beq_iff_eq]
    omega
  · exact valid_out n d h w

/-- What the four operations give. -/
def addF (n1 d1 n2 d2 : Int) : Int × Int × Int := if okF n1 d1 && okF n2 d2 then newF (n1 * d2 + n2 * d1) (d1 * d2) else (0, 0, 2)

theorem fr_mul_bd (x y : Int) (hx : -1073741824 ≤ x ∧ x ≤ 1073741824) (hy : -1073741824 ≤ y ∧ y ≤ 1073741824) : -1152921504606846976 ≤ x * y ∧ x * y ≤ 1152921504606846976 := by
  have h1 : (x * y).natAbs = x.natAbs * y.natAbs := Int.natAbs_mul x y
  have h2 : x.natAbs * y.natAbs ≤ 1073741824 * 1073741824 := Nat.mul_le_mul (by omega) (by omega)
  omega

theorem fr_three {w w1 w2 : World} {o1 o2 o3 : Obj} (hb : Below (((w.alloc o1).alloc o2).alloc o3).heap.size (((w.alloc o1).alloc o2).alloc o3) w1) (hb2 : Below w1.heap.size w1 w2) : Below w.heap.size w w2 :=
  (((((Below.refl _ _).alloc (Nat.le_refl _) o1).alloc (by simp) o2).alloc (by simp; omega) o3).trans (hb.mono (by simp; omega))).trans (hb2.mono (by have := hb.size; simp at this; omega))

theorem fr_three1 {w w1 : World} {o1 o2 o3 : Obj} (hb : Below (((w.alloc o1).alloc o2).alloc o3).heap.size (((w.alloc o1).alloc o2).alloc o3) w1) : Below w.heap.size w w1 :=
  ((((Below.refl _ _).alloc (Nat.le_refl _) o1).alloc (by simp) o2).alloc (by simp; omega) o3).trans (hb.mono (by simp; omega))

def compareF (n1 d1 n2 d2 : Int) : Int := if okF n1 d1 && okF n2 d2 then Lib.compareInt (n1 * d2) (n2 * d1) else 0

theorem fr_two1 {w w1 : World} {o1 o2 : Obj} (hb : Below ((w.alloc o1).alloc o2).heap.size ((w.alloc o1).alloc o2) w1) : Below w.heap.size w w1 :=
  (((Below.refl _ _).alloc (Nat.le_refl _) o1).alloc (by simp) o2).trans (hb.mono (by simp; omega))

theorem fr_one1 {w w1 : World} {o1 : Obj} (hb : Below (w.alloc o1).heap.size (w.alloc o1) w1) : Below w.heap.size w w1 :=
  ((Below.refl _ _).alloc (Nat.le_refl _) o1).trans (hb.mono (by simp))

theorem fr_boxes3 {w w1 : World} {n1 d1 n2 d2 n3 d3 : Int} {t1 t2 t3 : TypeId}
    (hb : Below (((w.alloc (.cells #[.int .i64 n1, .int .i64 d1] t1)).alloc (.cells #[.int .i64 n2, .int .i64 d2] t2)).alloc (.cells #[.int .i64 n3, .int .i64 d3] t3)).heap.size (((w.alloc (.cells #[.int .i64 n1, .int .i64 d1] t1)).alloc (.cells #[.int .i64 n2, .int .i64 d2] t2)).alloc (.cells #[.int .i64 n3, .int .i64 d3] t3)) w1) :
    Box w1 w.heap.size n1 d1 ∧ Box w1 (w.heap.size + 1) n2 d2 ∧ Box w1 (w.heap.size + 1 + 1) n3 d3 := by
  have a := (((Box.new w n1 d1 t1).alloc (.cells #[.int .i64 n2, .int .i64 d2] t2)).alloc (.cells #[.int .i64 n3, .int .i64 d3] t3)).below hb
  have b := ((Box.new (w.alloc (.cells #[.int .i64 n1, .int .i64 d1] t1)) n2 d2 t2).alloc (.cells #[.int .i64 n3, .int .i64 d3] t3)).below hb
  have c := (Box.new ((w.alloc (.cells #[.int .i64 n1, .int .i64 d1] t1)).alloc (.cells #[.int .i64 n2, .int .i64 d2] t2)) n3 d3 t3).below hb
  rw [show (w.alloc (.cells #[.int .i64 n1, .int .i64 d1] t1)).heap.size = w.heap.size + 1 from by simp] at b
  rw [show ((w.alloc (.cells #[.int .i64 n1, .int .i64 d1] t1)).alloc (.cells #[.int .i64 n2, .int .i64 d2] t2)).heap.size = w.heap.size + 1 + 1 from by simp] at c
  exact ⟨a, b, c⟩

theorem fr_up2 (n : Nat) : n ≤ n + 1 + 1 := by omega

theorem fr_boxes2 {w w1 : World} {n1 d1 n2 d2 : Int} {t1 t2 : TypeId}
    (hb : Below ((w.alloc (.cells #[.int .i64 n1, .int .i64 d1] t1)).alloc (.cells #[.int .i64 n2, .int .i64 d2] t2)).heap.size ((w.alloc (.cells #[.int .i64 n1, .int .i64 d1] t1)).alloc (.cells #[.int .i64 n2, .int .i64 d2] t2)) w1) :
    Box w1 w.heap.size n1 d1 ∧ Box w1 (w.heap.size + 1) n2 d2 := by
  have a := ((Box.new w n1 d1 t1).alloc (.cells #[.int .i64 n2, .int .i64 d2] t2)).below hb
  have b := (Box.new (w.alloc (.cells #[.int .i64 n1, .int .i64 d1] t1)) n2 d2 t2).below hb
  rw [show (w.alloc (.cells #[.int .i64 n1, .int .i64 d1] t1)).heap.size = w.heap.size + 1 from by simp] at b
  exact ⟨a, b⟩

theorem fr_two2 {w w1 w2 : World} {o1 o2 : Obj} (hb : Below ((w.alloc o1).alloc o2).heap.size ((w.alloc o1).alloc o2) w1) (hb2 : Below w1.heap.size w1 w2) : Below w.heap.size w w2 :=
  (fr_two1 hb).trans (hb2.mono (fr_two1 hb).size)

/-- What New gives for small numbers. -/
theorem newF_small (num den : Int) (h1 : 1 ≤ den) (h2 : den ≤ 1073741824) (h3 : -1073741824 ≤ num ∧ num ≤ 1073741824) :
    ∃ sn sd, newF num den = (sn, sd, 0) ∧ okF sn sd = true ∧ sn * den = num * sd ∧ (sn < 0 ↔ num < 0) ∧ (sn = 0 ↔ num = 0) ∧ sn.natAbs ≤ num.natAbs ∧ sd ≤ den := by
  obtain ⟨D, hD⟩ := Int.eq_ofNat_of_zero_le (show 0 ≤ den by omega)
  obtain ⟨N, hN⟩ : ∃ N, num.natAbs = N := ⟨_, rfl⟩
  obtain ⟨g, hg⟩ : ∃ g, Nat.gcd N D = g := ⟨_, rfl⟩
  have hDn : den.natAbs = D := by omega
  have hD0 : 0 < D := by omega
  have hg0 : 0 < g := by rw [← hg]; exact Nat.gcd_pos_of_pos_right N hD0
  have hgN : g ∣ N := by rw [← hg]; exact Nat.gcd_dvd_left N D
  have hgD : g ∣ D := by rw [← hg]; exact Nat.gcd_dvd_right N D
  obtain ⟨p, hp⟩ := hgN
  obtain ⟨q, hq⟩ := hgD
  have eN : N / g = p := by rw [hp, Nat.mul_div_cancel_left _ hg0]
  have eD : D / g = q := by rw [hq, Nat.mul_div_cancel_left _ hg0]
  have hq0 : 0 < q := by
    rcases Nat.eq_zero_or_pos q with h | h
    · subst h; omega
    · exact h
  have hpN : p ≤ N := by rw [← eN]; exact Nat.div_le_self _ _
  have hqD : q ≤ D := by rw [← eD]; exact Nat.div_le_self _ _
  have hpq : Nat.gcd p q = 1 := by
    have h := Nat.gcd_div (k := g) ⟨p, hp⟩ ⟨q, hq⟩
    rw [eN, eD, hg, Nat.div_self hg0] at h
    exact h
  have hfit := newF_fit (num := num) (den := den) (n := N) (d := D) (g := g) (by omega) hN hDn hg (by rw [eN]; omega) (by rw [eD]; omega)
  rw [eN, eD] at hfit
  have d2 : decide (den < 0) = false := by simp; omega
  have hpp : p = 0 ↔ N = 0 := by
    constructor
    · intro h; rw [hp, h]; simp
    · intro h
      rw [h] at hp
      rcases Nat.mul_eq_zero.1 hp.symm with h' | h'
      · omega
      · exact h'
  by_cases s : num < 0
  · rw [if_neg (by rw [d2]; simp [s])] at hfit
    refine ⟨_, _, hfit, ?_, ?_, ?_, ?_, by omega, by omega⟩
    · rw [okF_iff]
      refine ⟨by omega, by omega, by omega, by omega, ?_⟩
      rw [Int.natAbs_neg]; exact hpq
    · have e1 : num = -((g * p : Nat) : Int) := by omega
      have e2 : den = ((g * q : Nat) : Int) := by omega
      rw [e1, e2]
      push_cast
      rw [Int.neg_mul, Int.neg_mul, Int.mul_assoc, Int.mul_left_comm]
    · constructor
      · intro _; exact s
      · intro _; have : p ≠ 0 := fun h => by have := hpp.1 h; omega
        omega
    · constructor
      · intro h; have := hpp.1 (by omega); omega
      · intro h; omega
  · rw [if_pos (by rw [d2]; simp; omega)] at hfit
    refine ⟨_, _, hfit, ?_, ?_, ?_, ?_, by omega, by omega⟩
    · rw [okF_iff]
      exact ⟨by omega, by omega, by omega, by omega, hpq⟩
    · have e1 : num = ((g * p : Nat) : Int) := by omega
      have e2 : den = ((g * q : Nat) : Int) := by omega
      rw [e1, e2]
      push_cast
      rw [Int.mul_assoc, Int.mul_left_comm]
    · constructor
      · intro h; omega
      · intro h; omega
    · constructor
      · intro h; have := hpp.1 (by omega); omega
      · intro h; have := hpp.2 (by omega); omega

/-- Compare by cross products, for valid fractions. -/
theorem compareF_sign (x d y q : Int) (h1 : okF x d = true) (h2 : okF y q = true) :
    (x * q < y * d → compareF x d y q = -1) ∧ (x * q = y * d → compareF x d y q = 0) ∧ (y * d < x * q → compareF x d y q = 1) := by
  unfold compareF Lib.compareInt
  rw [if_pos (by rw [h1, h2]; rfl)]
  refine ⟨fun h => ?_, fun h => ?_, fun h => ?_⟩
  · rw [if_pos h]
  · rw [if_neg (by omega), if_neg (by omega)]
  · rw [if_neg (by omega), if_pos h]

set_option maxHeartbeats 1600000 in
theorem radd_all (n1 d1 n2 d2 : Int) (w : World) :
    Calls Try.prog 36 #[.agg #[.int .i64 n1, .int .i64 d1], .agg #[.int .i64 n2, .int .i64 d2]] w (Gave (addF n1 d1 n2 d2) w) := by
  unfold addF
  cases h1 : okF n1 d1
  · have H1 := Lib.hid h1
    clear h1
    go_enter Try.func36, Try.ntmps36
    go_wp2_with fail
    refine (frvalid_any n1 d1 _ H1.out _).mono ?_
    rintro e w1 ⟨rfl, hb⟩
    obtain ⟨A1, B1, R1⟩ := fr_boxes3 hb
    have HA1 := Lib.hid A1
    have HB1 := Lib.hid B1
    have HR1 := Lib.hid R1
    obtain ⟨a0, a1, _, _⟩ := A1
    obtain ⟨b0, b1, _, _⟩ := B1
    obtain ⟨r0, r1, r2, r3⟩ := R1
    go_wp2_with fail
    refine bodyPost_ret (v := .tuple #[.agg #[.int .i64 0, .int .i64 0], .int .i64 2]) (by simp [results, Try.results36, go_sem, r0, r1, r2, r3]) rfl ⟨rfl, ?_⟩
    exact ((fr_three1 hb).setCell (fr_up2 _) _).setCell (fr_up2 _) _
  · cases h2 : okF n2 d2
    · have H1 := Lib.hid h1
      have H2 := Lib.hid h2
      clear h1 h2
      go_enter Try.func36, Try.ntmps36
      go_wp2_with fail
      refine (frvalid_any n1 d1 _ H1.out _).mono ?_
      rintro e w1 ⟨rfl, hb⟩
      obtain ⟨A1, B1, R1⟩ := fr_boxes3 hb
      have HA1 := Lib.hid A1
      have HB1 := Lib.hid B1
      have HR1 := Lib.hid R1
      obtain ⟨a0, a1, _, _⟩ := A1
      obtain ⟨b0, b1, _, _⟩ := B1
      obtain ⟨r0, r1, r2, r3⟩ := R1
      go_wp2_with fail
      refine (frvalid_any n2 d2 _ H2.out _).mono ?_
      rintro e w2 ⟨rfl, hb2⟩
      clear a0 a1 b0 b1 r0 r1 r2 r3
      have HA2 := Lib.hid (HA1.out.below hb2)
      have HB2 := Lib.hid (HB1.out.below hb2)
      have HR2 := Lib.hid (HR1.out.below hb2)
      obtain ⟨a0, a1, _, _⟩ := HA2.out
      obtain ⟨b0, b1, _, _⟩ := HB2.out
      obtain ⟨r0, r1, r2, r3⟩ := HR2.out
      go_wp2_with fail
      refine bodyPost_ret (v := .tuple #[.agg #[.int .i64 0, .int .i64 0], .int .i64 2]) (by simp [results, Try.results36, go_sem, r0, r1, r2, r3]) rfl ⟨rfl, ?_⟩
      exact ((fr_three hb hb2).setCell (fr_up2 _) _).setCell (fr_up2 _) _
    · have H1 := Lib.hid h1
      have H2 := Lib.hid h2
      rw [okF_iff] at h1 h2
      have m1 := fr_mul_bd n1 d2 (by omega) (by omega)
      have m2 := fr_mul_bd n2 d1 (by omega) (by omega)
      have m3 := fr_mul_bd d1 d2 (by omega) (by omega)
      clear h1 h2
      rw [if_pos (show (true && true) = true from rfl)]
      generalize hr : newF (n1 * d2 + n2 * d1) (d1 * d2) = r
      have HR := Lib.hid hr
      clear hr
      obtain ⟨rn, rd, re⟩ := r
      go_enter Try.func36, Try.ntmps36
      go_wp2_with fail
      refine (frvalid_any n1 d1 _ H1.out _).mono ?_
      rintro e w1 ⟨rfl, hb⟩
      obtain ⟨A1, B1, R1⟩ := fr_boxes3 hb
      have HA1 := Lib.hid A1
      have HB1 := Lib.hid B1
      have HR1 := Lib.hid R1
      obtain ⟨a0, a1, _, _⟩ := A1
      obtain ⟨b0, b1, _, _⟩ := B1
      obtain ⟨r0, r1, r2, r3⟩ := R1
      go_wp2_with fail
      refine (frvalid_any n2 d2 _ H2.out _).mono ?_
      rintro e w2 ⟨rfl, hb2⟩
      clear a0 a1 b0 b1 r0 r1 r2 r3
      have HA2 := Lib.hid (HA1.out.below hb2)
      have HB2 := Lib.hid (HB1.out.below hb2)
      have HR2 := Lib.hid (HR1.out.below hb2)
      obtain ⟨a0, a1, _, _⟩ := HA2.out
      obtain ⟨b0, b1, _, _⟩ := HB2.out
      obtain ⟨r0, r1, r2, r3⟩ := HR2.out
      go_wp2_with fail
      refine (rnew_all _ _ ⟨by omega, by omega⟩ ⟨by omega, by omega⟩ _).mono ?_
      rintro e w3 ⟨he, hb3⟩
      rw [HR.out] at he
      subst he
      clear a0 a1 b0 b1 r0 r1 r2 r3
      obtain ⟨r0, r1, r2, r3⟩ := HR2.out.below hb3
      go_wp2_with fail
      refine bodyPost_ret (v := .tuple #[.agg #[.int .i64 rn, .int .i64 rd], .int .i64 re]) (by simp [results, Try.results36, go_sem, r0, r1, r2, r3]) rfl ⟨rfl, ?_⟩
      exact (((fr_three hb hb2).trans (hb3.mono (fr_three hb hb2).size)).setCell (fr_up2 _) _).setCell (fr_up2 _) _

set_option maxHeartbeats 1600000 in
theorem rcompare_all (n1 d1 n2 d2 : Int) (w : World) :
    Calls Try.prog 32 #[.agg #[.int .i64 n1, .int .i64 d1], .agg #[.int .i64 n2, .int .i64 d2]] w (Says (.int .i64 (compareF n1 d1 n2 d2)) w) := by
  cases h1 : okF n1 d1
  · have e0 : compareF n1 d1 n2 d2 = 0 := by unfold compareF; rw [h1]; rfl
    rw [e0]
    have H1 := Lib.hid h1
    clear h1 e0
    go_enter Try.func32, Try.ntmps32
    go_wp2_with fail
    refine (frvalid_any n1 d1 _ H1.out _).mono ?_
    rintro e w1 ⟨rfl, hb⟩
    obtain ⟨A1, B1⟩ := fr_boxes2 hb
    have HA1 := Lib.hid A1
    have HB1 := Lib.hid B1
    obtain ⟨a0, a1, _, _⟩ := A1
    obtain ⟨b0, b1, _, _⟩ := B1
    go_wp2_with fail
    go_ret
    exact ⟨rfl, fr_two1 hb⟩
  · cases h2 : okF n2 d2
    · have e0 : compareF n1 d1 n2 d2 = 0 := by unfold compareF; rw [h1, h2]; rfl
      rw [e0]
      have H1 := Lib.hid h1
      have H2 := Lib.hid h2
      clear h1 h2 e0
      go_enter Try.func32, Try.ntmps32
      go_wp2_with fail
      refine (frvalid_any n1 d1 _ H1.out _).mono ?_
      rintro e w1 ⟨rfl, hb⟩
      obtain ⟨A1, B1⟩ := fr_boxes2 hb
      have HA1 := Lib.hid A1
      have HB1 := Lib.hid B1
      obtain ⟨a0, a1, _, _⟩ := A1
      obtain ⟨b0, b1, _, _⟩ := B1
      go_wp2_with fail
      refine (frvalid_any n2 d2 _ H2.out _).mono ?_
      rintro e w2 ⟨rfl, hb2⟩
      clear a0 a1 b0 b1
      have HA2 := Lib.hid (HA1.out.below hb2)
      have HB2 := Lib.hid (HB1.out.below hb2)
      obtain ⟨a0, a1, _, _⟩ := HA2.out
      obtain ⟨b0, b1, _, _⟩ := HB2.out
      go_wp2_with fail
      go_ret
      exact ⟨rfl, fr_two2 hb hb2⟩
    · obtain ⟨s1, s2, s3⟩ := compareF_sign n1 d1 n2 d2 h1 h2
      have H1 := Lib.hid h1
      have H2 := Lib.hid h2
      rw [okF_iff] at h1 h2
      have m1 := fr_mul_bd n1 d2 (by omega) (by omega)
      have m2 := fr_mul_bd n2 d1 (by omega) (by omega)
      have m3 : IntKind.i64.wrap (n1 * d2) = n1 * d2 := IntWalk.i64_in _ ⟨by omega, by omega⟩
      have m4 : IntKind.i64.wrap (n2 * d1) = n2 * d1 := IntWalk.i64_in _ ⟨by omega, by omega⟩
      clear h1 h2
      rcases Int.lt_trichotomy (n1 * d2) (n2 * d1) with hs | hs | hs
      · rw [s1 hs]
        clear s1 s2 s3
        go_enter Try.func32, Try.ntmps32
        go_wp2_with fail
        refine (frvalid_any n1 d1 _ H1.out _).mono ?_
        rintro e w1 ⟨rfl, hb⟩
        obtain ⟨A1, B1⟩ := fr_boxes2 hb
        have HA1 := Lib.hid A1
        have HB1 := Lib.hid B1
        obtain ⟨a0, a1, _, _⟩ := A1
        obtain ⟨b0, b1, _, _⟩ := B1
        go_wp2_with fail
        refine (frvalid_any n2 d2 _ H2.out _).mono ?_
        rintro e w2 ⟨rfl, hb2⟩
        clear a0 a1 b0 b1
        have HA2 := Lib.hid (HA1.out.below hb2)
        have HB2 := Lib.hid (HB1.out.below hb2)
        obtain ⟨a0, a1, _, _⟩ := HA2.out
        obtain ⟨b0, b1, _, _⟩ := HB2.out
        go_wp2_with fail
        go_quiet (fail)
        go_wp2_with fail
        go_ret
        exact ⟨rfl, (fr_two2 hb hb2).drewN _⟩
      · rw [s2 hs]
        clear s1 s2 s3
        have hs1 : ¬ n1 * d2 < n2 * d1 := by omega
        have hs2 : ¬ n2 * d1 < n1 * d2 := by omega
        clear hs
        go_enter Try.func32, Try.ntmps32
        go_wp2_with fail
        refine (frvalid_any n1 d1 _ H1.out _).mono ?_
        rintro e w1 ⟨rfl, hb⟩
        obtain ⟨A1, B1⟩ := fr_boxes2 hb
        have HA1 := Lib.hid A1
        have HB1 := Lib.hid B1
        obtain ⟨a0, a1, _, _⟩ := A1
        obtain ⟨b0, b1, _, _⟩ := B1
        go_wp2_with fail
        refine (frvalid_any n2 d2 _ H2.out _).mono ?_
        rintro e w2 ⟨rfl, hb2⟩
        clear a0 a1 b0 b1
        have HA2 := Lib.hid (HA1.out.below hb2)
        have HB2 := Lib.hid (HB1.out.below hb2)
        obtain ⟨a0, a1, _, _⟩ := HA2.out
        obtain ⟨b0, b1, _, _⟩ := HB2.out
        go_wp2_with fail
        go_quiet (fail)
        go_wp2_with fail
        go_ret
        exact ⟨rfl, (fr_two2 hb hb2).drewN _⟩
      · rw [s3 hs]
        clear s1 s2 s3
        go_enter Try.func32, Try.ntmps32
        go_wp2_with fail
        refine (frvalid_any n1 d1 _ H1.out _).mono ?_
        rintro e w1 ⟨rfl, hb⟩
        obtain ⟨A1, B1⟩ := fr_boxes2 hb
        have HA1 := Lib.hid A1
        have HB1 := Lib.hid B1
        obtain ⟨a0, a1, _, _⟩ := A1
        obtain ⟨b0, b1, _, _⟩ := B1
        go_wp2_with fail
        refine (frvalid_any n2 d2 _ H2.out _).mono ?_
        rintro e w2 ⟨rfl, hb2⟩
        clear a0 a1 b0 b1
        have HA2 := Lib.hid (HA1.out.below hb2)
        have HB2 := Lib.hid (HB1.out.below hb2)
        obtain ⟨a0, a1, _, _⟩ := HA2.out
        obtain ⟨b0, b1, _, _⟩ := HB2.out
        go_wp2_with fail
        go_quiet (fail)
        go_wp2_with fail
        go_ret
        exact ⟨rfl, (fr_two2 hb hb2).drewN _⟩

end Go.Proofs.Ytjipmkgnndldpaa

namespace Go.Proofs.Ytjipmkgnndldpaa
open Go.RowKit
set_option linter.unusedSimpArgs false

set_option maxHeartbeats 800000 in
theorem both_all (n1 d1 n2 d2 : Int) (c1 c2 : Bool) (h1 : okF n1 d1 = c1) (h2 : okF n2 d2 = c2) (w : World) :
    Calls Try.prog 196 #[.agg #[.int .i64 n1, .int .i64 d1], .agg #[.int .i64 n2, .int .i64 d2]] w (Says (.bool (c1 && c2)) w) := by
  have H1 := Lib.hid h1
  have H2 := Lib.hid h2
  clear h1 h2
  cases c1
  · go_enter Try.func196, Try.ntmps196
    go_wp2_with fail
    refine (valid_all n1 d1 _ H1.out _).mono ?_
    rintro e w1 ⟨rfl, hb⟩
    go_wp2_with fail
    go_ret
    exact ⟨rfl, (((Below.refl _ _).alloc (Nat.le_refl _) _).alloc (by simp) _).trans (hb.mono (by simp; omega))⟩
  · go_enter Try.func196, Try.ntmps196
    go_wp2_with fail
    refine (valid_all n1 d1 _ H1.out _).mono ?_
    rintro e w1 ⟨rfl, hb⟩
    obtain ⟨hc, hf⟩ := bcell hb
    go_wp2_with fail
    refine (valid_all n2 d2 _ H2.out _).mono ?_
    rintro e w2 ⟨rfl, hb2⟩
    go_wp2_with fail
    go_ret
    have hz := hb.size
    simp at hz
    exact ⟨rfl, ((((Below.refl _ _).alloc (Nat.le_refl _) _).alloc (by simp) _).trans (hb.mono (by simp; omega))).trans (hb2.mono (by omega))⟩

set_option maxHeartbeats 1600000 in
theorem add_yes (n1 d1 n2 d2 : Int) (h1 : okF n1 d1 = true) (h2 : okF n2 d2 = true) (w : World) :
    Calls Try.prog 107 #[.agg #[.int .i64 n1, .int .i64 d1], .agg #[.int .i64 n2, .int .i64 d2]] w (Gave (newF (n1 * d2 + n2 * d1) (d1 * d2)) w) := by
  have H1 := Lib.hid h1
  have H2 := Lib.hid h2
  rw [okF_iff] at h1 h2
  have m1 := fr_mul_bd n1 d2 (by omega) (by omega)
  have m2 := fr_mul_bd n2 d1 (by omega) (by omega)
  have m3 := fr_mul_bd d1 d2 (by omega) (by omega)
  clear h1 h2
  generalize hr : newF (n1 * d2 + n2 * d1) (d1 * d2) = r
  have HR := Lib.hid hr
  clear hr
  obtain ⟨rn, rd, re⟩ := r
  go_enter Try.func107, Try.ntmps107
  go_wp2_with fail
  refine (both_all n1 d1 n2 d2 _ _ H1.out H2.out _).mono ?_
  rintro e w1 ⟨rfl, hb⟩
  obtain ⟨hc, hf⟩ := bcell hb
  have hz : w.heap.size + 2 < w1.heap.size := by have := hb.size; simp at this; omega
  go_wp2_with fail
  refine (new_all _ _ ⟨by omega, by omega⟩ ⟨by omega, by omega⟩ _).mono ?_
  rintro e w2 ⟨rfl, hb2⟩
  rw [HR.out]
  obtain ⟨hc2, hf2⟩ := bcell hb2
  have hz2 : w.heap.size + 2 < w2.heap.size := by have := hb2.size; omega
  go_wp2_with fail
  refine bodyPost_ret (v := .tuple #[.agg #[.int .i64 rn, .int .i64 rd], .int .i64 re]) (by simp [results, Try.results107, go_sem, hc2, hf2, hc, hf, hz, hz2]) rfl ⟨rfl, ?_⟩
  exact ((fr_three hb hb2).setCell (by simp; omega) _).setCell (by simp; omega) _

set_option maxHeartbeats 800000 in
theorem add_no (n1 d1 n2 d2 : Int) (h : (okF n1 d1 && okF n2 d2) = false) (w : World) :
    Calls Try.prog 107 #[.agg #[.int .i64 n1, .int .i64 d1], .agg #[.int .i64 n2, .int .i64 d2]] w (Gave (0, 0, 2) w) := by
  have H := Lib.hid h
  clear h
  go_enter Try.func107, Try.ntmps107
  go_wp2_with fail
  refine (both_all n1 d1 n2 d2 _ _ rfl rfl _).mono ?_
  rintro e w1 ⟨he, hb⟩
  rw [H.out] at he
  subst he
  obtain ⟨hc, hf⟩ := bcell hb
  have hz : w.heap.size + 2 < w1.heap.size := by have := hb.size; simp at this; omega
  go_wp2_with fail
  refine bodyPost_ret (v := .tuple #[.agg #[.int .i64 0, .int .i64 0], .int .i64 2]) (by simp [results, Try.results107, go_sem, hc, hf, hz]) rfl ⟨rfl, ?_⟩
  exact ((fr_three1 hb).setCell (by simp; omega) _).setCell (by simp; omega) _

theorem add_all (n1 d1 n2 d2 : Int) (w : World) :
    Calls Try.prog 107 #[.agg #[.int .i64 n1, .int .i64 d1], .agg #[.int .i64 n2, .int .i64 d2]] w (Gave (addF n1 d1 n2 d2) w) := by
  unfold addF
  by_cases h : (okF n1 d1 && okF n2 d2) = true
  · rw [if_pos h]
    rw [Bool.and_eq_true] at h
    exact add_yes n1 d1 n2 d2 h.1 h.2 w
  · rw [if_neg h]
    exact add_no n1 d1 n2 d2 (by simpa using h) w

def subF (n1 d1 n2 d2 : Int) : Int × Int × Int := if okF n1 d1 && okF n2 d2 then newF (n1 * d2 - n2 * d1) (d1 * d2) else (0, 0, 2)
def divF (n1 d1 n2 d2 : Int) : Int × Int × Int := if okF n1 d1 && okF n2 d2 then newF (n1 * d2) (d1 * n2) else (0, 0, 2)

set_option maxHeartbeats 1600000 in
theorem sub_yes (n1 d1 n2 d2 : Int) (h1 : okF n1 d1 = true) (h2 : okF n2 d2 = true) (w : World) :
    Calls Try.prog 108 #[.agg #[.int .i64 n1, .int .i64 d1], .agg #[.int .i64 n2, .int .i64 d2]] w (Gave (newF (n1 * d2 - n2 * d1) (d1 * d2)) w) := by
  have H1 := Lib.hid h1
  have H2 := Lib.hid h2
  rw [okF_iff] at h1 h2
  have m1 := fr_mul_bd n1 d2 (by omega) (by omega)
  have m2 := fr_mul_bd n2 d1 (by omega) (by omega)
  have m3 := fr_mul_bd d1 d2 (by omega) (by omega)
  clear h1 h2
  generalize hr : newF (n1 * d2 - n2 * d1) (d1 * d2) = r
  have HR := Lib.hid hr
  clear hr
  obtain ⟨rn, rd, re⟩ := r
  go_enter Try.func108, Try.ntmps108
  go_wp2_with fail
  refine (both_all n1 d1 n2 d2 _ _ H1.out H2.out _).mono ?_
  rintro e w1 ⟨rfl, hb⟩
  obtain ⟨hc, hf⟩ := bcell hb
  have hz : w.heap.size + 2 < w1.heap.size := by have := hb.size; simp at this; omega
  go_wp2_with fail
  refine (new_all _ _ ⟨by omega, by omega⟩ ⟨by omega, by omega⟩ _).mono ?_
  rintro e w2 ⟨rfl, hb2⟩
  rw [HR.out]
  obtain ⟨hc2, hf2⟩ := bcell hb2
  have hz2 : w.heap.size + 2 < w2.heap.size := by have := hb2.size; omega
  go_wp2_with fail
  refine bodyPost_ret (v := .tuple #[.agg #[.int .i64 rn, .int .i64 rd], .int .i64 re]) (by simp [results, Try.results108, go_sem, hc2, hf2, hc, hf, hz, hz2]) rfl ⟨rfl, ?_⟩
  exact ((fr_three hb hb2).setCell (by simp; omega) _).setCell (by simp; omega) _

set_option maxHeartbeats 800000 in
theorem sub_no (n1 d1 n2 d2 : Int) (h : (okF n1 d1 && okF n2 d2) = false) (w : World) :
    Calls Try.prog 108 #[.agg #[.int .i64 n1, .int .i64 d1], .agg #[.int .i64 n2, .int .i64 d2]] w (Gave (0, 0, 2) w) := by
  have H := Lib.hid h
  clear h
  go_enter Try.func108, Try.ntmps108
  go_wp2_with fail
  refine (both_all n1 d1 n2 d2 _ _ rfl rfl _).mono ?_
  rintro e w1 ⟨he, hb⟩
  rw [H.out] at he
  subst he
  obtain ⟨hc, hf⟩ := bcell hb
  have hz : w.heap.size + 2 < w1.heap.size := by have := hb.size; simp at this; omega
  go_wp2_with fail
  refine bodyPost_ret (v := .tuple #[.agg #[.int .i64 0, .int .i64 0], .int .i64 2]) (by simp [results, Try.results108, go_sem, hc, hf, hz]) rfl ⟨rfl, ?_⟩
  exact ((fr_three1 hb).setCell (by simp; omega) _).setCell (by simp; omega) _

theorem sub_all (n1 d1 n2 d2 : Int) (w : World) :
    Calls Try.prog 108 #[.agg #[.int .i64 n1, .int .i64 d1], .agg #[.int .i64 n2, .int .i64 d2]] w (Gave (subF n1 d1 n2 d2) w) := by
  unfold subF
  by_cases h : (okF n1 d1 && okF n2 d2) = true
  · rw [if_pos h]
    rw [Bool.and_eq_true] at h
    exact sub_yes n1 d1 n2 d2 h.1 h.2 w
  · rw [if_neg h]
    exact sub_no n1 d1 n2 d2 (by simpa using h) w

set_option maxHeartbeats 1600000 in
theorem div_yes (n1 d1 n2 d2 : Int) (h1 : okF n1 d1 = true) (h2 : okF n2 d2 = true) (w : World) :
    Calls Try.prog 106 #[.agg #[.int .i64 n1, .int .i64 d1], .agg #[.int .i64 n2, .int .i64 d2]] w (Gave (newF (n1 * d2) (d1 * n2)) w) := by
  have H1 := Lib.hid h1
  have H2 := Lib.hid h2
  rw [okF_iff] at h1 h2
  have m1 := fr_mul_bd n1 d2 (by omega) (by omega)
  have m2 := fr_mul_bd d1 n2 (by omega) (by omega)
  clear h1 h2
  generalize hr : newF (n1 * d2) (d1 * n2) = r
  have HR := Lib.hid hr
  clear hr
  obtain ⟨rn, rd, re⟩ := r
  go_enter Try.func106, Try.ntmps106
  go_wp2_with fail
  refine (both_all n1 d1 n2 d2 _ _ H1.out H2.out _).mono ?_
  rintro e w1 ⟨rfl, hb⟩
  obtain ⟨hc, hf⟩ := bcell hb
  have hz : w.heap.size + 2 < w1.heap.size := by have := hb.size; simp at this; omega
  go_wp2_with fail
  refine (new_all _ _ ⟨by omega, by omega⟩ ⟨by omega, by omega⟩ _).mono ?_
  rintro e w2 ⟨rfl, hb2⟩
  rw [HR.out]
  obtain ⟨hc2, hf2⟩ := bcell hb2
  have hz2 : w.heap.size + 2 < w2.heap.size := by have := hb2.size; omega
  go_wp2_with fail
  refine bodyPost_ret (v := .tuple #[.agg #[.int .i64 rn, .int .i64 rd], .int .i64 re]) (by simp [results, Try.results106, go_sem, hc2, hf2, hc, hf, hz, hz2]) rfl ⟨rfl, ?_⟩
  exact ((fr_three hb hb2).setCell (by simp; omega) _).setCell (by simp; omega) _

set_option maxHeartbeats 800000 in
theorem div_no (n1 d1 n2 d2 : Int) (h : (okF n1 d1 && okF n2 d2) = false) (w : World) :
    Calls Try.prog 106 #[.agg #[.int .i64 n1, .int .i64 d1], .agg #[.int .i64 n2, .int .i64 d2]] w (Gave (0, 0, 2) w) := by
  have H := Lib.hid h
  clear h
  go_enter Try.func106, Try.ntmps106
  go_wp2_with fail
  refine (both_all n1 d1 n2 d2 _ _ rfl rfl _).mono ?_
  rintro e w1 ⟨he, hb⟩
  rw [H.out] at he
  subst he
  obtain ⟨hc, hf⟩ := bcell hb
  have hz : w.heap.size + 2 < w1.heap.size := by have := hb.size; simp at this; omega
  go_wp2_with fail
  refine bodyPost_ret (v := .tuple #[.agg #[.int .i64 0, .int .i64 0], .int .i64 2]) (by simp [results, Try.results106, go_sem, hc, hf, hz]) rfl ⟨rfl, ?_⟩
  exact ((fr_three1 hb).setCell (by simp; omega) _).setCell (by simp; omega) _

theorem div_all (n1 d1 n2 d2 : Int) (w : World) :
    Calls Try.prog 106 #[.agg #[.int .i64 n1, .int .i64 d1], .agg #[.int .i64 n2, .int .i64 d2]] w (Gave (divF n1 d1 n2 d2) w) := by
  unfold divF
  by_cases h : (okF n1 d1 && okF n2 d2) = true
  · rw [if_pos h]
    rw [Bool.and_eq_true] at h
    exact div_yes n1 d1 n2 d2 h.1 h.2 w
  · rw [if_neg h]
    exact div_no n1 d1 n2 d2 (by simpa using h) w

def floorF (n d : Int) : Int := if okF n d then n / d else 0
def ceilF (n d : Int) : Int := if okF n d then -((-n) / d) else 0

set_option maxHeartbeats 400000 in
theorem isnan_int (x : Int) (w : World) : Calls Try.prog 269 #[.int .i64 x] w fun e w' => e = .returned (.bool false) ∧ w = w' := by
  go_enter Try.func269, Try.ntmps269
  go_wp2_with fail
  go_ret
  exact ⟨by simp, rfl⟩

set_option maxHeartbeats 800000 in
theorem cmp_int (x y : Int) (w : World) : Calls Try.prog 197 #[.int .i64 x, .int .i64 y] w fun e w' => e = .returned (.int .i64 (Lib.compareInt x y)) ∧ w = w' := by
  unfold Lib.compareInt
  by_cases h1 : x < y
  · rw [if_pos h1]
    go_enter Try.func197, Try.ntmps197
    go_wp2_with fail
    refine (isnan_int x _).mono ?_
    rintro e w1 ⟨rfl, rfl⟩
    go_wp2_with fail
    refine (isnan_int y _).mono ?_
    rintro e w1 ⟨rfl, rfl⟩
    go_wp2_with fail
    go_ret
    exact ⟨rfl, rfl⟩
  · rw [if_neg h1]
    by_cases h2 : y < x
    · rw [if_pos h2]
      go_enter Try.func197, Try.ntmps197
      go_wp2_with fail
      refine (isnan_int x _).mono ?_
      rintro e w1 ⟨rfl, rfl⟩
      go_wp2_with fail
      refine (isnan_int y _).mono ?_
      rintro e w1 ⟨rfl, rfl⟩
      go_wp2_with fail
      go_ret
      exact ⟨rfl, rfl⟩
    · rw [if_neg h2]
      go_enter Try.func197, Try.ntmps197
      go_wp2_with fail
      refine (isnan_int x _).mono ?_
      rintro e w1 ⟨rfl, rfl⟩
      go_wp2_with fail
      refine (isnan_int y _).mono ?_
      rintro e w1 ⟨rfl, rfl⟩
      go_wp2_with fail
      go_ret
      exact ⟨rfl, rfl⟩


set_option maxHeartbeats 800000 in
theorem compare_all (n1 d1 n2 d2 : Int) (w : World) :
    Calls Try.prog 105 #[.agg #[.int .i64 n1, .int .i64 d1], .agg #[.int .i64 n2, .int .i64 d2]] w (Says (.int .i64 (compareF n1 d1 n2 d2)) w) := by
  unfold compareF
  by_cases h : (okF n1 d1 && okF n2 d2) = true
  · rw [if_pos h]
    have H := Lib.hid h
    rw [Bool.and_eq_true, okF_iff, okF_iff] at h
    have m1 := fr_mul_bd n1 d2 (by omega) (by omega)
    have m2 := fr_mul_bd n2 d1 (by omega) (by omega)
    clear h
    go_enter Try.func105, Try.ntmps105
    go_wp2_with fail
    refine (both_all n1 d1 n2 d2 _ _ rfl rfl _).mono ?_
    rintro e w1 ⟨he, hb⟩
    rw [H.out] at he
    subst he
    obtain ⟨hc, hf⟩ := bcell hb
    have hz : w.heap.size + 1 < w1.heap.size := by have := hb.size; simp at this; omega
    go_wp2_with fail
    refine (cmp_int _ _ _).mono ?_
    rintro e w2 ⟨rfl, hw⟩
    subst hw
    go_wp2_with fail
    go_ret
    exact ⟨rfl, fr_two1 hb⟩
  · rw [if_neg h]
    have H := Lib.hid (show (okF n1 d1 && okF n2 d2) = false by simpa using h)
    clear h
    go_enter Try.func105, Try.ntmps105
    go_wp2_with fail
    refine (both_all n1 d1 n2 d2 _ _ rfl rfl _).mono ?_
    rintro e w1 ⟨he, hb⟩
    rw [H.out] at he
    subst he
    go_wp2_with fail
    go_ret
    exact ⟨rfl, fr_two1 hb⟩

/-- Go's quotient and remainder against the floor. -/
theorem floor_facts (n d : Int) (_hd : 1 ≤ d) : (n.tmod d < 0 → n.tdiv d - 1 = n / d) ∧ (0 ≤ n.tmod d → n.tdiv d = n / d) := by
  have e := Int.tmod_add_mul_tdiv n d
  have h1 := Int.tmod_lt_of_pos n (show 0 < d by omega)
  have h2 : -d < n.tmod d := Int.lt_tmod_of_pos n (show 0 < d by omega)
  constructor
  · intro h
    have : n = (n.tmod d + d) + d * (n.tdiv d - 1) := by rw [Int.mul_sub]; omega
    conv => rhs; rw [this]
    rw [Int.add_mul_ediv_left _ _ (by omega), Int.ediv_eq_zero_of_lt (by omega) (by omega)]
    omega
  · intro h
    conv => rhs; rw [← e]
    rw [Int.add_mul_ediv_left _ _ (by omega), Int.ediv_eq_zero_of_lt h h1]
    omega

theorem tdiv_bd (n d : Int) (_hd : 1 ≤ d) (h : -1073741824 ≤ n ∧ n ≤ 1073741824) : -1073741824 ≤ n.tdiv d ∧ n.tdiv d ≤ 1073741824 := by
  have h1 : (n.tdiv d).natAbs = n.natAbs / d.natAbs := Int.natAbs_tdiv n d
  have h2 : n.natAbs / d.natAbs ≤ n.natAbs := Nat.div_le_self _ _
  omega

set_option maxHeartbeats 800000 in
theorem floor_all (n d : Int) (w : World) :
    Calls Try.prog 266 #[.agg #[.int .i64 n, .int .i64 d]] w (Says (.int .i64 (floorF n d)) w) := by
  unfold floorF
  by_cases h : okF n d = true
  · rw [if_pos h]
    have H := Lib.hid h
    rw [okF_iff] at h
    have hd : 1 ≤ d := h.1
    have hd2 : d ≤ 1073741824 := h.2.1
    have hn1 : -1073741824 ≤ n := h.2.2.1
    have hn2 : n ≤ 1073741824 := h.2.2.2.1
    have hd0 : ¬ d = 0 := by omega
    have q := tdiv_bd n d hd ⟨hn1, hn2⟩
    have r1 := Int.tmod_lt_of_pos n (show 0 < d by omega)
    have r2 : -d < n.tmod d := Int.lt_tmod_of_pos n (show 0 < d by omega)
    have F := Lib.hid (floor_facts n d hd)
    clear h
    by_cases hm : n.tmod d < 0
    · have hq := F.out.1 hm
      generalize n / d = z at hq
      have HQ := Lib.hid hq
      clear hq
      go_enter Try.func266, Try.ntmps266
      go_wp2_with fail
      refine (valid_all n d _ H.out _).mono ?_
      rintro e w1 ⟨rfl, hb⟩
      obtain ⟨hc, hf⟩ := bcell hb
      have hz : w.heap.size < w1.heap.size := by have := hb.size; simp at this; omega
      go_wp2_with fail
      go_ret
      exact ⟨ret_int HQ.out, fr_one1 hb⟩
    · have hq := F.out.2 (by omega)
      generalize n / d = z at hq
      have HQ := Lib.hid hq
      clear hq
      go_enter Try.func266, Try.ntmps266
      go_wp2_with fail
      refine (valid_all n d _ H.out _).mono ?_
      rintro e w1 ⟨rfl, hb⟩
      obtain ⟨hc, hf⟩ := bcell hb
      have hz : w.heap.size < w1.heap.size := by have := hb.size; simp at this; omega
      go_wp2_with fail
      go_ret
      exact ⟨ret_int HQ.out, fr_one1 hb⟩
  · rw [if_neg h]
    have H := Lib.hid (show okF n d = false by simpa using h)
    clear h
    go_enter Try.func266, Try.ntmps266
    go_wp2_with fail
    refine (valid_all n d _ H.out _).mono ?_
    rintro e w1 ⟨rfl, hb⟩
    go_wp2_with fail
    go_ret
    exact ⟨rfl, fr_one1 hb⟩

theorem okF_neg (n d : Int) : okF (-n) d = okF n d := by
  rw [Bool.eq_iff_iff, okF_iff, okF_iff, Int.natAbs_neg]
  omega

theorem floorF_bd (n d : Int) : -1073741824 ≤ floorF n d ∧ floorF n d ≤ 1073741824 := by
  unfold floorF
  split
  · rename_i h
    rw [okF_iff] at h
    constructor
    · have : -1073741824 * d ≤ n := by omega
      exact Int.le_ediv_of_mul_le (by omega) (by omega)
    · exact Int.le_trans (Int.ediv_le_ediv (by omega) h.2.2.2.1) (Int.ediv_le_self _ (by omega))
  · omega

set_option maxHeartbeats 800000 in
theorem ceil_all (n d : Int) (hn : In64 n) (w : World) :
    Calls Try.prog 191 #[.agg #[.int .i64 n, .int .i64 d]] w (Says (.int .i64 (ceilF n d)) w) := by
  obtain ⟨m, hm⟩ : ∃ m, wrap64 (-n) = m := ⟨_, rfl⟩
  have hv : -(floorF m d) = ceilF n d := by
    unfold floorF ceilF
    by_cases hk : n = -9223372036854775808
    · have e : m = n := by rw [← hm, hk]; unfold wrap64; omega
      rw [e, okF_no n d (by omega)]
      rfl
    · have e : m = -n := by rw [← hm]; unfold wrap64; unfold In64 at hn; omega
      rw [e, okF_neg]
      by_cases h : okF n d = true
      · rw [if_pos h, if_pos h]
      · rw [if_neg h, if_neg h]; rfl
  have bd := floorF_bd m d
  have HV := Lib.hid hv
  have HM := Lib.hid hm
  clear hv
  go_enter Try.func191, Try.ntmps191
  go_wp2_with fail
  refine (floor_all m d _).mono ?_
  rintro e w1 ⟨rfl, hb⟩
  go_wp2_with fail
  go_ret
  exact ⟨ret_int HV.out, fr_one1 hb⟩

end Go.Proofs.Ytjipmkgnndldpaa

namespace Go.Proofs.Ytjipmkgnndldpaa
open Go.RowKit
set_option linter.unusedSimpArgs false

set_option maxHeartbeats 1600000 in
theorem rdiv_all (n1 d1 n2 d2 : Int) (w : World) :
    Calls Try.prog 109 #[.agg #[.int .i64 n1, .int .i64 d1], .agg #[.int .i64 n2, .int .i64 d2]] w (Gave (divF n1 d1 n2 d2) w) := by
  unfold divF
  cases h1 : okF n1 d1
  · have H1 := Lib.hid h1
    clear h1
    go_enter Try.func109, Try.ntmps109
    go_wp2_with fail
    refine (frvalid_any n1 d1 _ H1.out _).mono ?_
    rintro e w1 ⟨rfl, hb⟩
    obtain ⟨A1, B1, R1⟩ := fr_boxes3 hb
    have HA1 := Lib.hid A1
    have HB1 := Lib.hid B1
    have HR1 := Lib.hid R1
    obtain ⟨a0, a1, _, _⟩ := A1
    obtain ⟨b0, b1, _, _⟩ := B1
    obtain ⟨r0, r1, r2, r3⟩ := R1
    go_wp2_with fail
    refine bodyPost_ret (v := .tuple #[.agg #[.int .i64 0, .int .i64 0], .int .i64 2]) (by simp [results, Try.results109, go_sem, r0, r1, r2, r3]) rfl ⟨rfl, ?_⟩
    exact ((fr_three1 hb).setCell (fr_up2 _) _).setCell (fr_up2 _) _
  · cases h2 : okF n2 d2
    · have H1 := Lib.hid h1
      have H2 := Lib.hid h2
      clear h1 h2
      go_enter Try.func109, Try.ntmps109
      go_wp2_with fail
      refine (frvalid_any n1 d1 _ H1.out _).mono ?_
      rintro e w1 ⟨rfl, hb⟩
      obtain ⟨A1, B1, R1⟩ := fr_boxes3 hb
      have HA1 := Lib.hid A1
      have HB1 := Lib.hid B1
      have HR1 := Lib.hid R1
      obtain ⟨a0, a1, _, _⟩ := A1
      obtain ⟨b0, b1, _, _⟩ := B1
      obtain ⟨r0, r1, r2, r3⟩ := R1
      go_wp2_with fail
      refine (frvalid_any n2 d2 _ H2.out _).mono ?_
      rintro e w2 ⟨rfl, hb2⟩
      clear a0 a1 b0 b1 r0 r1 r2 r3
      have HA2 := Lib.hid (HA1.out.below hb2)
      have HB2 := Lib.hid (HB1.out.below hb2)
      have HR2 := Lib.hid (HR1.out.below hb2)
      obtain ⟨a0, a1, _, _⟩ := HA2.out
      obtain ⟨b0, b1, _, _⟩ := HB2.out
      obtain ⟨r0, r1, r2, r3⟩ := HR2.out
      go_wp2_with fail
      refine bodyPost_ret (v := .tuple #[.agg #[.int .i64 0, .int .i64 0], .int .i64 2]) (by simp [results, Try.results109, go_sem, r0, r1, r2, r3]) rfl ⟨rfl, ?_⟩
      exact ((fr_three hb hb2).setCell (fr_up2 _) _).setCell (fr_up2 _) _
    · have H1 := Lib.hid h1
      have H2 := Lib.hid h2
      rw [okF_iff] at h1 h2
      by_cases hq : n2 = 0
      · subst hq
        clear h1 h2
        rw [if_pos (show (true && true) = true from rfl), Int.mul_zero, newF_zero]
        go_enter Try.func109, Try.ntmps109
        go_wp2_with fail
        refine (frvalid_any n1 d1 _ H1.out _).mono ?_
        rintro e w1 ⟨rfl, hb⟩
        obtain ⟨A1, B1, R1⟩ := fr_boxes3 hb
        have HA1 := Lib.hid A1
        have HB1 := Lib.hid B1
        have HR1 := Lib.hid R1
        obtain ⟨a0, a1, _, _⟩ := A1
        obtain ⟨b0, b1, _, _⟩ := B1
        obtain ⟨r0, r1, r2, r3⟩ := R1
        go_wp2_with fail
        refine (frvalid_any 0 d2 _ H2.out _).mono ?_
        rintro e w2 ⟨rfl, hb2⟩
        clear a0 a1 b0 b1 r0 r1 r2 r3
        have HA2 := Lib.hid (HA1.out.below hb2)
        have HB2 := Lib.hid (HB1.out.below hb2)
        have HR2 := Lib.hid (HR1.out.below hb2)
        obtain ⟨a0, a1, _, _⟩ := HA2.out
        obtain ⟨b0, b1, _, _⟩ := HB2.out
        obtain ⟨r0, r1, r2, r3⟩ := HR2.out
        go_wp2_with fail
        refine bodyPost_ret (v := .tuple #[.agg #[.int .i64 0, .int .i64 0], .int .i64 2]) (by simp [results, Try.results109, go_sem, r0, r1, r2, r3]) rfl ⟨rfl, ?_⟩
        exact ((fr_three hb hb2).setCell (fr_up2 _) _).setCell (fr_up2 _) _
      · have hq2 : (n2 == 0) = false := by simpa using hq
        have m1 := fr_mul_bd n1 d2 (by omega) (by omega)
        have m2 := fr_mul_bd d1 n2 (by omega) (by omega)
        clear h1 h2
        rw [if_pos (show (true && true) = true from rfl)]
        generalize hr : newF (n1 * d2) (d1 * n2) = r
        have HR := Lib.hid hr
        clear hr
        obtain ⟨rn, rd, re⟩ := r
        go_enter Try.func109, Try.ntmps109
        go_wp2_with fail
        refine (frvalid_any n1 d1 _ H1.out _).mono ?_
        rintro e w1 ⟨rfl, hb⟩
        obtain ⟨A1, B1, R1⟩ := fr_boxes3 hb
        have HA1 := Lib.hid A1
        have HB1 := Lib.hid B1
        have HR1 := Lib.hid R1
        obtain ⟨a0, a1, _, _⟩ := A1
        obtain ⟨b0, b1, _, _⟩ := B1
        obtain ⟨r0, r1, r2, r3⟩ := R1
        go_wp2_with fail
        refine (frvalid_any n2 d2 _ H2.out _).mono ?_
        rintro e w2 ⟨rfl, hb2⟩
        clear a0 a1 b0 b1 r0 r1 r2 r3
        have HA2 := Lib.hid (HA1.out.below hb2)
        have HB2 := Lib.hid (HB1.out.below hb2)
        have HR2 := Lib.hid (HR1.out.below hb2)
        obtain ⟨a0, a1, _, _⟩ := HA2.out
        obtain ⟨b0, b1, _, _⟩ := HB2.out
        obtain ⟨r0, r1, r2, r3⟩ := HR2.out
        go_wp2_with fail
        refine (rnew_all _ _ ⟨by omega, by omega⟩ ⟨by omega, by omega⟩ _).mono ?_
        rintro e w3 ⟨he, hb3⟩
        rw [HR.out] at he
        subst he
        clear a0 a1 b0 b1 r0 r1 r2 r3
        obtain ⟨r0, r1, r2, r3⟩ := HR2.out.below hb3
        go_wp2_with fail
        refine bodyPost_ret (v := .tuple #[.agg #[.int .i64 rn, .int .i64 rd], .int .i64 re]) (by simp [results, Try.results109, go_sem, r0, r1, r2, r3]) rfl ⟨rfl, ?_⟩
        exact (((fr_three hb hb2).trans (hb3.mono (fr_three hb hb2).size)).setCell (fr_up2 _) _).setCell (fr_up2 _) _

theorem addF_neg (n1 d1 n2 d2 m : Int) (hn : In64 n2) (hm : wrap64 (-n2) = m) : addF n1 d1 m d2 = subF n1 d1 n2 d2 := by
  unfold addF subF
  by_cases hk : n2 = -9223372036854775808
  · have e : m = n2 := by rw [← hm, hk]; unfold wrap64; omega
    rw [e, okF_no n2 d2 (by omega)]
    simp
  · have e : m = -n2 := by rw [← hm]; unfold wrap64; unfold In64 at hn; omega
    rw [e, okF_neg, Int.neg_mul]
    rfl

set_option maxHeartbeats 800000 in
theorem rsub_all (n1 d1 n2 d2 : Int) (hn : In64 n2) (w : World) :
    Calls Try.prog 110 #[.agg #[.int .i64 n1, .int .i64 d1], .agg #[.int .i64 n2, .int .i64 d2]] w (Gave (subF n1 d1 n2 d2) w) := by
  obtain ⟨m, hm⟩ : ∃ m, wrap64 (-n2) = m := ⟨_, rfl⟩
  rw [← addF_neg n1 d1 n2 d2 m hn hm]
  generalize hr : addF n1 d1 m d2 = r
  have HR := Lib.hid hr
  clear hr
  obtain ⟨rn, rd, re⟩ := r
  go_enter Try.func110, Try.ntmps110
  go_wp2_with fail
  refine (radd_all n1 d1 m d2 _).mono ?_
  rintro e w1 ⟨he, hb⟩
  rw [HR.out] at he
  subst he
  obtain ⟨hc, hf⟩ := bcell hb
  have hz : w.heap.size + 2 < w1.heap.size := by have := hb.size; simp at this; omega
  go_wp2_with fail
  refine bodyPost_ret (v := .tuple #[.agg #[.int .i64 rn, .int .i64 rd], .int .i64 re]) (by simp [results, Try.results110, go_sem, hc, hf, hz]) rfl ⟨rfl, ?_⟩
  exact ((fr_three1 hb).setCell (fr_up2 _) _).setCell (fr_up2 _) _

theorem rfloor_facts (n d : Int) (hd : 1 ≤ d) : (n < n.tdiv d * d → n.tdiv d - 1 = n / d) ∧ (n.tdiv d * d ≤ n → n.tdiv d = n / d) := by
  have e := Int.tmod_add_mul_tdiv n d
  have h := floor_facts n d hd
  rw [Int.mul_comm] at e
  exact ⟨fun k => h.1 (by omega), fun k => h.2 (by omega)⟩

set_option maxHeartbeats 800000 in
theorem rfloor_all (n d : Int) (w : World) :
    Calls Try.prog 121 #[.agg #[.int .i64 n, .int .i64 d]] w (Says (.int .i64 (floorF n d)) w) := by
  unfold floorF
  by_cases h : okF n d = true
  · rw [if_pos h]
    have H := Lib.hid h
    rw [okF_iff] at h
    have hd : 1 ≤ d := h.1
    have hd2 : d ≤ 1073741824 := h.2.1
    have hn1 : -1073741824 ≤ n := h.2.2.1
    have hn2 : n ≤ 1073741824 := h.2.2.2.1
    have hd0 : ¬ d = 0 := by omega
    have q := tdiv_bd n d hd ⟨hn1, hn2⟩
    have q2 := fr_mul_bd (n.tdiv d) d q (by omega)
    have F := rfloor_facts n d hd
    clear h
    generalize hz : n / d = z at F
    by_cases hm : n < n.tdiv d * d
    · have HQ := Lib.hid (F.1 hm)
      clear F hz
      go_enter Try.func121, Try.ntmps121
      go_wp2_with fail
      refine (frvalid_any n d _ H.out _).mono ?_
      rintro e w1 ⟨rfl, hb⟩
      obtain ⟨hc, hf⟩ := bcell hb
      have hz : w.heap.size < w1.heap.size := by have := hb.size; simp at this; omega
      go_wp2_with fail
      go_ret
      exact ⟨ret_int HQ.out, fr_one1 hb⟩
    · have HQ := Lib.hid (F.2 (by omega))
      clear F hz
      go_enter Try.func121, Try.ntmps121
      go_wp2_with fail
      refine (frvalid_any n d _ H.out _).mono ?_
      rintro e w1 ⟨rfl, hb⟩
      obtain ⟨hc, hf⟩ := bcell hb
      have hz : w.heap.size < w1.heap.size := by have := hb.size; simp at this; omega
      go_wp2_with fail
      go_ret
      exact ⟨ret_int HQ.out, fr_one1 hb⟩
  · rw [if_neg h]
    have H := Lib.hid (show okF n d = false by simpa using h)
    clear h
    go_enter Try.func121, Try.ntmps121
    go_wp2_with fail
    refine (frvalid_any n d _ H.out _).mono ?_
    rintro e w1 ⟨rfl, hb⟩
    go_wp2_with fail
    go_ret
    exact ⟨rfl, fr_one1 hb⟩

set_option maxHeartbeats 800000 in
theorem rceil_all (n d : Int) (w : World) :
    Calls Try.prog 35 #[.agg #[.int .i64 n, .int .i64 d]] w (Says (.int .i64 (ceilF n d)) w) := by
  by_cases h : okF n d = true
  · have H := Lib.hid h
    have hv : -(floorF (-n) d) = ceilF n d := by
      unfold floorF ceilF
      rw [okF_neg, if_pos h, if_pos h]
    have HV := Lib.hid hv
    have bd := floorF_bd (-n) d
    rw [okF_iff] at h
    have hn1 : -1073741824 ≤ n := h.2.2.1
    have hn2 : n ≤ 1073741824 := h.2.2.2.1
    clear hv h
    go_enter Try.func35, Try.ntmps35
    go_wp2_with fail
    refine (frvalid_any n d _ H.out _).mono ?_
    rintro e w1 ⟨rfl, hb⟩
    obtain ⟨hc, hf⟩ := bcell hb
    have hz : w.heap.size < w1.heap.size := by have := hb.size; simp at this; omega
    go_wp2_with fail
    refine (rfloor_all (-n) d _).mono ?_
    rintro e w2 ⟨rfl, hb2⟩
    go_wp2_with fail
    go_ret
    exact ⟨ret_int HV.out, (fr_one1 hb).trans (hb2.mono (fr_one1 hb).size)⟩
  · have e0 : ceilF n d = 0 := by unfold ceilF; rw [if_neg h]
    rw [e0]
    have H := Lib.hid (show okF n d = false by simpa using h)
    clear h e0
    go_enter Try.func35, Try.ntmps35
    go_wp2_with fail
    refine (frvalid_any n d _ H.out _).mono ?_
    rintro e w1 ⟨rfl, hb⟩
    go_wp2_with fail
    go_ret
    exact ⟨rfl, fr_one1 hb⟩

end Go.Proofs.Ytjipmkgnndldpaa
