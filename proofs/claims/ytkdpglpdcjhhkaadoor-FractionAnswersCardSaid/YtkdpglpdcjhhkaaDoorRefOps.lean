/- Contracts of the document's own operations: Add, Mul, Div, Sub, Compare, Floor, Ceil. Written by wip/genref.py. By the verifier's side. -/
import Derived.Test.YtkdpglpdcjhhkaaDoorRefNew
namespace Go.Proofs.YtkdpglpdcjhhkaaDoor
open Go.RowKit
set_option linter.unusedSimpArgs false

theorem boxes3 {w w1 : World} {n1 d1 n2 d2 n3 d3 : Int} {t1 t2 t3 : TypeId}
    (hb : Below (((w.alloc (.cells #[.int .i64 n1, .int .i64 d1] t1)).alloc (.cells #[.int .i64 n2, .int .i64 d2] t2)).alloc (.cells #[.int .i64 n3, .int .i64 d3] t3)).heap.size (((w.alloc (.cells #[.int .i64 n1, .int .i64 d1] t1)).alloc (.cells #[.int .i64 n2, .int .i64 d2] t2)).alloc (.cells #[.int .i64 n3, .int .i64 d3] t3)) w1) :
    Box w1 w.heap.size n1 d1 ∧ Box w1 (w.heap.size + 1) n2 d2 ∧ Box w1 (w.heap.size + 1 + 1) n3 d3 := by
  have a := (((Box.new w n1 d1 t1).alloc (.cells #[.int .i64 n2, .int .i64 d2] t2)).alloc (.cells #[.int .i64 n3, .int .i64 d3] t3)).below hb
  have b := ((Box.new (w.alloc (.cells #[.int .i64 n1, .int .i64 d1] t1)) n2 d2 t2).alloc (.cells #[.int .i64 n3, .int .i64 d3] t3)).below hb
  have c := (Box.new ((w.alloc (.cells #[.int .i64 n1, .int .i64 d1] t1)).alloc (.cells #[.int .i64 n2, .int .i64 d2] t2)) n3 d3 t3).below hb
  rw [show (w.alloc (.cells #[.int .i64 n1, .int .i64 d1] t1)).heap.size = w.heap.size + 1 from by simp] at b
  rw [show ((w.alloc (.cells #[.int .i64 n1, .int .i64 d1] t1)).alloc (.cells #[.int .i64 n2, .int .i64 d2] t2)).heap.size = w.heap.size + 1 + 1 from by simp] at c
  exact ⟨a, b, c⟩

theorem up2 (n : Nat) : n ≤ n + 1 + 1 := by omega

theorem boxes2 {w w1 : World} {n1 d1 n2 d2 : Int} {t1 t2 : TypeId}
    (hb : Below ((w.alloc (.cells #[.int .i64 n1, .int .i64 d1] t1)).alloc (.cells #[.int .i64 n2, .int .i64 d2] t2)).heap.size ((w.alloc (.cells #[.int .i64 n1, .int .i64 d1] t1)).alloc (.cells #[.int .i64 n2, .int .i64 d2] t2)) w1) :
    Box w1 w.heap.size n1 d1 ∧ Box w1 (w.heap.size + 1) n2 d2 := by
  have a := ((Box.new w n1 d1 t1).alloc (.cells #[.int .i64 n2, .int .i64 d2] t2)).below hb
  have b := (Box.new (w.alloc (.cells #[.int .i64 n1, .int .i64 d1] t1)) n2 d2 t2).below hb
  rw [show (w.alloc (.cells #[.int .i64 n1, .int .i64 d1] t1)).heap.size = w.heap.size + 1 from by simp] at b
  exact ⟨a, b⟩

theorem fourB {w w1 w2 : World} {o1 o2 o3 : Obj} (hb : Below (((w.alloc o1).alloc o2).alloc o3).heap.size (((w.alloc o1).alloc o2).alloc o3) w1) (hb2 : Below w1.heap.size w1 w2) : Below w.heap.size w w2 := three hb hb2
theorem two2 {w w1 w2 : World} {o1 o2 : Obj} (hb : Below ((w.alloc o1).alloc o2).heap.size ((w.alloc o1).alloc o2) w1) (hb2 : Below w1.heap.size w1 w2) : Below w.heap.size w w2 :=
  (two1 hb).trans (hb2.mono (two1 hb).size)

set_option maxHeartbeats 1600000 in
theorem radd_all (n1 d1 n2 d2 : Int) (w : World) :
    Calls Tryd.prog 26 #[.agg #[.int .i64 n1, .int .i64 d1], .agg #[.int .i64 n2, .int .i64 d2]] w (Gave (addF n1 d1 n2 d2) w) := by
  unfold addF
  cases h1 : okF n1 d1
  · have H1 := Lib.hid h1
    clear h1
    go_enter Tryd.func26, Tryd.ntmps26
    go_wp2_with fail
    refine (rvalid_any n1 d1 _ H1.out _).mono ?_
    rintro e w1 ⟨rfl, hb⟩
    obtain ⟨A1, B1, R1⟩ := boxes3 hb
    have HA1 := Lib.hid A1
    have HB1 := Lib.hid B1
    have HR1 := Lib.hid R1
    obtain ⟨a0, a1, _, _⟩ := A1
    obtain ⟨b0, b1, _, _⟩ := B1
    obtain ⟨r0, r1, r2, r3⟩ := R1
    go_wp2_with fail
    refine bodyPost_ret (v := .tuple #[.agg #[.int .i64 0, .int .i64 0], .int .i64 2]) (by simp [results, Tryd.results26, go_sem, r0, r1, r2, r3]) rfl ⟨rfl, ?_⟩
    exact ((three1 hb).setCell (up2 _) _).setCell (up2 _) _
  · cases h2 : okF n2 d2
    · have H1 := Lib.hid h1
      have H2 := Lib.hid h2
      clear h1 h2
      go_enter Tryd.func26, Tryd.ntmps26
      go_wp2_with fail
      refine (rvalid_any n1 d1 _ H1.out _).mono ?_
      rintro e w1 ⟨rfl, hb⟩
      obtain ⟨A1, B1, R1⟩ := boxes3 hb
      have HA1 := Lib.hid A1
      have HB1 := Lib.hid B1
      have HR1 := Lib.hid R1
      obtain ⟨a0, a1, _, _⟩ := A1
      obtain ⟨b0, b1, _, _⟩ := B1
      obtain ⟨r0, r1, r2, r3⟩ := R1
      go_wp2_with fail
      refine (rvalid_any n2 d2 _ H2.out _).mono ?_
      rintro e w2 ⟨rfl, hb2⟩
      clear a0 a1 b0 b1 r0 r1 r2 r3
      have HA2 := Lib.hid (HA1.out.below hb2)
      have HB2 := Lib.hid (HB1.out.below hb2)
      have HR2 := Lib.hid (HR1.out.below hb2)
      obtain ⟨a0, a1, _, _⟩ := HA2.out
      obtain ⟨b0, b1, _, _⟩ := HB2.out
      obtain ⟨r0, r1, r2, r3⟩ := HR2.out
      go_wp2_with fail
      refine bodyPost_ret (v := .tuple #[.agg #[.int .i64 0, .int .i64 0], .int .i64 2]) (by simp [results, Tryd.results26, go_sem, r0, r1, r2, r3]) rfl ⟨rfl, ?_⟩
      exact ((three hb hb2).setCell (up2 _) _).setCell (up2 _) _
    · have H1 := Lib.hid h1
      have H2 := Lib.hid h2
      rw [okF_iff] at h1 h2
      have m1 := mul_bd n1 d2 (by omega) (by omega)
      have m2 := mul_bd n2 d1 (by omega) (by omega)
      have m3 := mul_bd d1 d2 (by omega) (by omega)
      clear h1 h2
      rw [if_pos (show (true && true) = true from rfl)]
      generalize hr : newF (n1 * d2 + n2 * d1) (d1 * d2) = r
      have HR := Lib.hid hr
      clear hr
      obtain ⟨rn, rd, re⟩ := r
      go_enter Tryd.func26, Tryd.ntmps26
      go_wp2_with fail
      refine (rvalid_any n1 d1 _ H1.out _).mono ?_
      rintro e w1 ⟨rfl, hb⟩
      obtain ⟨A1, B1, R1⟩ := boxes3 hb
      have HA1 := Lib.hid A1
      have HB1 := Lib.hid B1
      have HR1 := Lib.hid R1
      obtain ⟨a0, a1, _, _⟩ := A1
      obtain ⟨b0, b1, _, _⟩ := B1
      obtain ⟨r0, r1, r2, r3⟩ := R1
      go_wp2_with fail
      refine (rvalid_any n2 d2 _ H2.out _).mono ?_
      rintro e w2 ⟨rfl, hb2⟩
      clear a0 a1 b0 b1 r0 r1 r2 r3
      have HA2 := Lib.hid (HA1.out.below hb2)
      have HB2 := Lib.hid (HB1.out.below hb2)
      have HR2 := Lib.hid (HR1.out.below hb2)
      obtain ⟨a0, a1, _, _⟩ := HA2.out
      obtain ⟨b0, b1, _, _⟩ := HB2.out
      obtain ⟨r0, r1, r2, r3⟩ := HR2.out
      go_wp2_with fail
      refine (rnew_all _ _ ⟨by omega, by omega⟩ ⟨by omega, by omega⟩ _).mono ?_
      rintro e w3 ⟨he, hb3⟩
      rw [HR.out] at he
      subst he
      clear a0 a1 b0 b1 r0 r1 r2 r3
      obtain ⟨r0, r1, r2, r3⟩ := HR2.out.below hb3
      go_wp2_with fail
      refine bodyPost_ret (v := .tuple #[.agg #[.int .i64 rn, .int .i64 rd], .int .i64 re]) (by simp [results, Tryd.results26, go_sem, r0, r1, r2, r3]) rfl ⟨rfl, ?_⟩
      exact (((three hb hb2).trans (hb3.mono (three hb hb2).size)).setCell (up2 _) _).setCell (up2 _) _

set_option maxHeartbeats 1600000 in
theorem rmul_all (n1 d1 n2 d2 : Int) (w : World) :
    Calls Tryd.prog 32 #[.agg #[.int .i64 n1, .int .i64 d1], .agg #[.int .i64 n2, .int .i64 d2]] w (Gave (mulF n1 d1 n2 d2) w) := by
  unfold mulF
  cases h1 : okF n1 d1
  · have H1 := Lib.hid h1
    clear h1
    go_enter Tryd.func32, Tryd.ntmps32
    go_wp2_with fail
    refine (rvalid_any n1 d1 _ H1.out _).mono ?_
    rintro e w1 ⟨rfl, hb⟩
    obtain ⟨A1, B1, R1⟩ := boxes3 hb
    have HA1 := Lib.hid A1
    have HB1 := Lib.hid B1
    have HR1 := Lib.hid R1
    obtain ⟨a0, a1, _, _⟩ := A1
    obtain ⟨b0, b1, _, _⟩ := B1
    obtain ⟨r0, r1, r2, r3⟩ := R1
    go_wp2_with fail
    refine bodyPost_ret (v := .tuple #[.agg #[.int .i64 0, .int .i64 0], .int .i64 2]) (by simp [results, Tryd.results32, go_sem, r0, r1, r2, r3]) rfl ⟨rfl, ?_⟩
    exact ((three1 hb).setCell (up2 _) _).setCell (up2 _) _
  · cases h2 : okF n2 d2
    · have H1 := Lib.hid h1
      have H2 := Lib.hid h2
      clear h1 h2
      go_enter Tryd.func32, Tryd.ntmps32
      go_wp2_with fail
      refine (rvalid_any n1 d1 _ H1.out _).mono ?_
      rintro e w1 ⟨rfl, hb⟩
      obtain ⟨A1, B1, R1⟩ := boxes3 hb
      have HA1 := Lib.hid A1
      have HB1 := Lib.hid B1
      have HR1 := Lib.hid R1
      obtain ⟨a0, a1, _, _⟩ := A1
      obtain ⟨b0, b1, _, _⟩ := B1
      obtain ⟨r0, r1, r2, r3⟩ := R1
      go_wp2_with fail
      refine (rvalid_any n2 d2 _ H2.out _).mono ?_
      rintro e w2 ⟨rfl, hb2⟩
      clear a0 a1 b0 b1 r0 r1 r2 r3
      have HA2 := Lib.hid (HA1.out.below hb2)
      have HB2 := Lib.hid (HB1.out.below hb2)
      have HR2 := Lib.hid (HR1.out.below hb2)
      obtain ⟨a0, a1, _, _⟩ := HA2.out
      obtain ⟨b0, b1, _, _⟩ := HB2.out
      obtain ⟨r0, r1, r2, r3⟩ := HR2.out
      go_wp2_with fail
      refine bodyPost_ret (v := .tuple #[.agg #[.int .i64 0, .int .i64 0], .int .i64 2]) (by simp [results, Tryd.results32, go_sem, r0, r1, r2, r3]) rfl ⟨rfl, ?_⟩
      exact ((three hb hb2).setCell (up2 _) _).setCell (up2 _) _
    · have H1 := Lib.hid h1
      have H2 := Lib.hid h2
      rw [okF_iff] at h1 h2
      have m1 := mul_bd n1 n2 (by omega) (by omega)
      have m2 := mul_bd d1 d2 (by omega) (by omega)
      clear h1 h2
      rw [if_pos (show (true && true) = true from rfl)]
      generalize hr : newF (n1 * n2) (d1 * d2) = r
      have HR := Lib.hid hr
      clear hr
      obtain ⟨rn, rd, re⟩ := r
      go_enter Tryd.func32, Tryd.ntmps32
      go_wp2_with fail
      refine (rvalid_any n1 d1 _ H1.out _).mono ?_
      rintro e w1 ⟨rfl, hb⟩
      obtain ⟨A1, B1, R1⟩ := boxes3 hb
      have HA1 := Lib.hid A1
      have HB1 := Lib.hid B1
      have HR1 := Lib.hid R1
      obtain ⟨a0, a1, _, _⟩ := A1
      obtain ⟨b0, b1, _, _⟩ := B1
      obtain ⟨r0, r1, r2, r3⟩ := R1
      go_wp2_with fail
      refine (rvalid_any n2 d2 _ H2.out _).mono ?_
      rintro e w2 ⟨rfl, hb2⟩
      clear a0 a1 b0 b1 r0 r1 r2 r3
      have HA2 := Lib.hid (HA1.out.below hb2)
      have HB2 := Lib.hid (HB1.out.below hb2)
      have HR2 := Lib.hid (HR1.out.below hb2)
      obtain ⟨a0, a1, _, _⟩ := HA2.out
      obtain ⟨b0, b1, _, _⟩ := HB2.out
      obtain ⟨r0, r1, r2, r3⟩ := HR2.out
      go_wp2_with fail
      refine (rnew_all _ _ ⟨by omega, by omega⟩ ⟨by omega, by omega⟩ _).mono ?_
      rintro e w3 ⟨he, hb3⟩
      rw [HR.out] at he
      subst he
      clear a0 a1 b0 b1 r0 r1 r2 r3
      obtain ⟨r0, r1, r2, r3⟩ := HR2.out.below hb3
      go_wp2_with fail
      refine bodyPost_ret (v := .tuple #[.agg #[.int .i64 rn, .int .i64 rd], .int .i64 re]) (by simp [results, Tryd.results32, go_sem, r0, r1, r2, r3]) rfl ⟨rfl, ?_⟩
      exact (((three hb hb2).trans (hb3.mono (three hb hb2).size)).setCell (up2 _) _).setCell (up2 _) _

set_option maxHeartbeats 1600000 in
theorem rdiv_all (n1 d1 n2 d2 : Int) (w : World) :
    Calls Tryd.prog 34 #[.agg #[.int .i64 n1, .int .i64 d1], .agg #[.int .i64 n2, .int .i64 d2]] w (Gave (divF n1 d1 n2 d2) w) := by
  unfold divF
  cases h1 : okF n1 d1
  · have H1 := Lib.hid h1
    clear h1
    go_enter Tryd.func34, Tryd.ntmps34
    go_wp2_with fail
    refine (rvalid_any n1 d1 _ H1.out _).mono ?_
    rintro e w1 ⟨rfl, hb⟩
    obtain ⟨A1, B1, R1⟩ := boxes3 hb
    have HA1 := Lib.hid A1
    have HB1 := Lib.hid B1
    have HR1 := Lib.hid R1
    obtain ⟨a0, a1, _, _⟩ := A1
    obtain ⟨b0, b1, _, _⟩ := B1
    obtain ⟨r0, r1, r2, r3⟩ := R1
    go_wp2_with fail
    refine bodyPost_ret (v := .tuple #[.agg #[.int .i64 0, .int .i64 0], .int .i64 2]) (by simp [results, Tryd.results34, go_sem, r0, r1, r2, r3]) rfl ⟨rfl, ?_⟩
    exact ((three1 hb).setCell (up2 _) _).setCell (up2 _) _
  · cases h2 : okF n2 d2
    · have H1 := Lib.hid h1
      have H2 := Lib.hid h2
      clear h1 h2
      go_enter Tryd.func34, Tryd.ntmps34
      go_wp2_with fail
      refine (rvalid_any n1 d1 _ H1.out _).mono ?_
      rintro e w1 ⟨rfl, hb⟩
      obtain ⟨A1, B1, R1⟩ := boxes3 hb
      have HA1 := Lib.hid A1
      have HB1 := Lib.hid B1
      have HR1 := Lib.hid R1
      obtain ⟨a0, a1, _, _⟩ := A1
      obtain ⟨b0, b1, _, _⟩ := B1
      obtain ⟨r0, r1, r2, r3⟩ := R1
      go_wp2_with fail
      refine (rvalid_any n2 d2 _ H2.out _).mono ?_
      rintro e w2 ⟨rfl, hb2⟩
      clear a0 a1 b0 b1 r0 r1 r2 r3
      have HA2 := Lib.hid (HA1.out.below hb2)
      have HB2 := Lib.hid (HB1.out.below hb2)
      have HR2 := Lib.hid (HR1.out.below hb2)
      obtain ⟨a0, a1, _, _⟩ := HA2.out
      obtain ⟨b0, b1, _, _⟩ := HB2.out
      obtain ⟨r0, r1, r2, r3⟩ := HR2.out
      go_wp2_with fail
      refine bodyPost_ret (v := .tuple #[.agg #[.int .i64 0, .int .i64 0], .int .i64 2]) (by simp [results, Tryd.results34, go_sem, r0, r1, r2, r3]) rfl ⟨rfl, ?_⟩
      exact ((three hb hb2).setCell (up2 _) _).setCell (up2 _) _
    · have H1 := Lib.hid h1
      have H2 := Lib.hid h2
      rw [okF_iff] at h1 h2
      by_cases hq : n2 = 0
      · subst hq
        clear h1 h2
        rw [if_pos (show (true && true) = true from rfl), Int.mul_zero, newF_zero]
        go_enter Tryd.func34, Tryd.ntmps34
        go_wp2_with fail
        refine (rvalid_any n1 d1 _ H1.out _).mono ?_
        rintro e w1 ⟨rfl, hb⟩
        obtain ⟨A1, B1, R1⟩ := boxes3 hb
        have HA1 := Lib.hid A1
        have HB1 := Lib.hid B1
        have HR1 := Lib.hid R1
        obtain ⟨a0, a1, _, _⟩ := A1
        obtain ⟨b0, b1, _, _⟩ := B1
        obtain ⟨r0, r1, r2, r3⟩ := R1
        go_wp2_with fail
        refine (rvalid_any 0 d2 _ H2.out _).mono ?_
        rintro e w2 ⟨rfl, hb2⟩
        clear a0 a1 b0 b1 r0 r1 r2 r3
        have HA2 := Lib.hid (HA1.out.below hb2)
        have HB2 := Lib.hid (HB1.out.below hb2)
        have HR2 := Lib.hid (HR1.out.below hb2)
        obtain ⟨a0, a1, _, _⟩ := HA2.out
        obtain ⟨b0, b1, _, _⟩ := HB2.out
        obtain ⟨r0, r1, r2, r3⟩ := HR2.out
        go_wp2_with fail
        refine bodyPost_ret (v := .tuple #[.agg #[.int .i64 0, .int .i64 0], .int .i64 2]) (by simp [results, Tryd.results34, go_sem, r0, r1, r2, r3]) rfl ⟨rfl, ?_⟩
        exact ((three hb hb2).setCell (up2 _) _).setCell (up2 _) _
      · have hq2 : (n2 == 0) = false := by simpa using hq
        have m1 := mul_bd n1 d2 (by omega) (by omega)
        have m2 := mul_bd d1 n2 (by omega) (by omega)
        clear h1 h2
        rw [if_pos (show (true && true) = true from rfl)]
        generalize hr : newF (n1 * d2) (d1 * n2) = r
        have HR := Lib.hid hr
        clear hr
        obtain ⟨rn, rd, re⟩ := r
        go_enter Tryd.func34, Tryd.ntmps34
        go_wp2_with fail
        refine (rvalid_any n1 d1 _ H1.out _).mono ?_
        rintro e w1 ⟨rfl, hb⟩
        obtain ⟨A1, B1, R1⟩ := boxes3 hb
        have HA1 := Lib.hid A1
        have HB1 := Lib.hid B1
        have HR1 := Lib.hid R1
        obtain ⟨a0, a1, _, _⟩ := A1
        obtain ⟨b0, b1, _, _⟩ := B1
        obtain ⟨r0, r1, r2, r3⟩ := R1
        go_wp2_with fail
        refine (rvalid_any n2 d2 _ H2.out _).mono ?_
        rintro e w2 ⟨rfl, hb2⟩
        clear a0 a1 b0 b1 r0 r1 r2 r3
        have HA2 := Lib.hid (HA1.out.below hb2)
        have HB2 := Lib.hid (HB1.out.below hb2)
        have HR2 := Lib.hid (HR1.out.below hb2)
        obtain ⟨a0, a1, _, _⟩ := HA2.out
        obtain ⟨b0, b1, _, _⟩ := HB2.out
        obtain ⟨r0, r1, r2, r3⟩ := HR2.out
        go_wp2_with fail
        refine (rnew_all _ _ ⟨by omega, by omega⟩ ⟨by omega, by omega⟩ _).mono ?_
        rintro e w3 ⟨he, hb3⟩
        rw [HR.out] at he
        subst he
        clear a0 a1 b0 b1 r0 r1 r2 r3
        obtain ⟨r0, r1, r2, r3⟩ := HR2.out.below hb3
        go_wp2_with fail
        refine bodyPost_ret (v := .tuple #[.agg #[.int .i64 rn, .int .i64 rd], .int .i64 re]) (by simp [results, Tryd.results34, go_sem, r0, r1, r2, r3]) rfl ⟨rfl, ?_⟩
        exact (((three hb hb2).trans (hb3.mono (three hb hb2).size)).setCell (up2 _) _).setCell (up2 _) _

theorem addF_neg (n1 d1 n2 d2 m : Int) (hn : In64 n2) (hm : wrap64 (-n2) = m) : addF n1 d1 m d2 = subF n1 d1 n2 d2 := by
  unfold addF subF
  by_cases hk : n2 = -9223372036854775808
  · have e : m = n2 := by rw [← hm, hk]; unfold wrap64; omega
    rw [e, okF_no n2 d2 (by omega)]
    simp
  · have e : m = -n2 := by rw [← hm]; unfold wrap64; unfold In64 at hn; omega
    rw [e, okF_neg, Int.neg_mul]
    rfl

set_option maxHeartbeats 800000 in
theorem rsub_all (n1 d1 n2 d2 : Int) (hn : In64 n2) (w : World) :
    Calls Tryd.prog 28 #[.agg #[.int .i64 n1, .int .i64 d1], .agg #[.int .i64 n2, .int .i64 d2]] w (Gave (subF n1 d1 n2 d2) w) := by
  obtain ⟨m, hm⟩ : ∃ m, wrap64 (-n2) = m := ⟨_, rfl⟩
  rw [← addF_neg n1 d1 n2 d2 m hn hm]
  generalize hr : addF n1 d1 m d2 = r
  have HR := Lib.hid hr
  clear hr
  obtain ⟨rn, rd, re⟩ := r
  go_enter Tryd.func28, Tryd.ntmps28
  go_wp2_with fail
  refine (radd_all n1 d1 m d2 _).mono ?_
  rintro e w1 ⟨he, hb⟩
  rw [HR.out] at he
  subst he
  obtain ⟨hc, hf⟩ := bcell hb
  have hz : w.heap.size + 2 < w1.heap.size := by have := hb.size; simp at this; omega
  go_wp2_with fail
  refine bodyPost_ret (v := .tuple #[.agg #[.int .i64 rn, .int .i64 rd], .int .i64 re]) (by simp [results, Tryd.results28, go_sem, hc, hf, hz]) rfl ⟨rfl, ?_⟩
  exact ((three1 hb).setCell (up2 _) _).setCell (up2 _) _

set_option maxHeartbeats 1600000 in
theorem rcompare_all (n1 d1 n2 d2 : Int) (w : World) :
    Calls Tryd.prog 30 #[.agg #[.int .i64 n1, .int .i64 d1], .agg #[.int .i64 n2, .int .i64 d2]] w (Says (.int .i64 (compareF n1 d1 n2 d2)) w) := by
  cases h1 : okF n1 d1
  · have e0 : compareF n1 d1 n2 d2 = 0 := by unfold compareF; rw [h1]; rfl
    rw [e0]
    have H1 := Lib.hid h1
    clear h1 e0
    go_enter Tryd.func30, Tryd.ntmps30
    go_wp2_with fail
    refine (rvalid_any n1 d1 _ H1.out _).mono ?_
    rintro e w1 ⟨rfl, hb⟩
    obtain ⟨A1, B1⟩ := boxes2 hb
    have HA1 := Lib.hid A1
    have HB1 := Lib.hid B1
    obtain ⟨a0, a1, _, _⟩ := A1
    obtain ⟨b0, b1, _, _⟩ := B1
    go_wp2_with fail
    go_ret
    exact ⟨rfl, two1 hb⟩
  · cases h2 : okF n2 d2
    · have e0 : compareF n1 d1 n2 d2 = 0 := by unfold compareF; rw [h1, h2]; rfl
      rw [e0]
      have H1 := Lib.hid h1
      have H2 := Lib.hid h2
      clear h1 h2 e0
      go_enter Tryd.func30, Tryd.ntmps30
      go_wp2_with fail
      refine (rvalid_any n1 d1 _ H1.out _).mono ?_
      rintro e w1 ⟨rfl, hb⟩
      obtain ⟨A1, B1⟩ := boxes2 hb
      have HA1 := Lib.hid A1
      have HB1 := Lib.hid B1
      obtain ⟨a0, a1, _, _⟩ := A1
      obtain ⟨b0, b1, _, _⟩ := B1
      go_wp2_with fail
      refine (rvalid_any n2 d2 _ H2.out _).mono ?_
      rintro e w2 ⟨rfl, hb2⟩
      clear a0 a1 b0 b1
      have HA2 := Lib.hid (HA1.out.below hb2)
      have HB2 := Lib.hid (HB1.out.below hb2)
      obtain ⟨a0, a1, _, _⟩ := HA2.out
      obtain ⟨b0, b1, _, _⟩ := HB2.out
      go_wp2_with fail
      go_ret
      exact ⟨rfl, two2 hb hb2⟩
    · obtain ⟨s1, s2, s3⟩ := compareF_sign n1 d1 n2 d2 h1 h2
      have H1 := Lib.hid h1
      have H2 := Lib.hid h2
      rw [okF_iff] at h1 h2
      have m1 := mul_bd n1 d2 (by omega) (by omega)
      have m2 := mul_bd n2 d1 (by omega) (by omega)
      have m3 : IntKind.i64.wrap (n1 * d2) = n1 * d2 := IntWalk.i64_in _ ⟨by omega, by omega⟩
      have m4 : IntKind.i64.wrap (n2 * d1) = n2 * d1 := IntWalk.i64_in _ ⟨by omega, by omega⟩
      clear h1 h2
      rcases Int.lt_trichotomy (n1 * d2) (n2 * d1) with hs | hs | hs
      · rw [s1 hs]
        clear s1 s2 s3
        go_enter Tryd.func30, Tryd.ntmps30
        go_wp2_with fail
        refine (rvalid_any n1 d1 _ H1.out _).mono ?_
        rintro e w1 ⟨rfl, hb⟩
        obtain ⟨A1, B1⟩ := boxes2 hb
        have HA1 := Lib.hid A1
        have HB1 := Lib.hid B1
        obtain ⟨a0, a1, _, _⟩ := A1
        obtain ⟨b0, b1, _, _⟩ := B1
        go_wp2_with fail
        refine (rvalid_any n2 d2 _ H2.out _).mono ?_
        rintro e w2 ⟨rfl, hb2⟩
        clear a0 a1 b0 b1
        have HA2 := Lib.hid (HA1.out.below hb2)
        have HB2 := Lib.hid (HB1.out.below hb2)
        obtain ⟨a0, a1, _, _⟩ := HA2.out
        obtain ⟨b0, b1, _, _⟩ := HB2.out
        go_wp2_with fail
        go_quiet (fail)
        go_wp2_with fail
        go_ret
        exact ⟨rfl, (two2 hb hb2).drewN _⟩
      · rw [s2 hs]
        clear s1 s2 s3
        have hs1 : ¬ n1 * d2 < n2 * d1 := by omega
        have hs2 : ¬ n2 * d1 < n1 * d2 := by omega
        clear hs
        go_enter Tryd.func30, Tryd.ntmps30
        go_wp2_with fail
        refine (rvalid_any n1 d1 _ H1.out _).mono ?_
        rintro e w1 ⟨rfl, hb⟩
        obtain ⟨A1, B1⟩ := boxes2 hb
        have HA1 := Lib.hid A1
        have HB1 := Lib.hid B1
        obtain ⟨a0, a1, _, _⟩ := A1
        obtain ⟨b0, b1, _, _⟩ := B1
        go_wp2_with fail
        refine (rvalid_any n2 d2 _ H2.out _).mono ?_
        rintro e w2 ⟨rfl, hb2⟩
        clear a0 a1 b0 b1
        have HA2 := Lib.hid (HA1.out.below hb2)
        have HB2 := Lib.hid (HB1.out.below hb2)
        obtain ⟨a0, a1, _, _⟩ := HA2.out
        obtain ⟨b0, b1, _, _⟩ := HB2.out
        go_wp2_with fail
        go_quiet (fail)
        go_wp2_with fail
        go_ret
        exact ⟨rfl, (two2 hb hb2).drewN _⟩
      · rw [s3 hs]
        clear s1 s2 s3
        go_enter Tryd.func30, Tryd.ntmps30
        go_wp2_with fail
        refine (rvalid_any n1 d1 _ H1.out _).mono ?_
        rintro e w1 ⟨rfl, hb⟩
        obtain ⟨A1, B1⟩ := boxes2 hb
        have HA1 := Lib.hid A1
        have HB1 := Lib.hid B1
        obtain ⟨a0, a1, _, _⟩ := A1
        obtain ⟨b0, b1, _, _⟩ := B1
        go_wp2_with fail
        refine (rvalid_any n2 d2 _ H2.out _).mono ?_
        rintro e w2 ⟨rfl, hb2⟩
        clear a0 a1 b0 b1
        have HA2 := Lib.hid (HA1.out.below hb2)
        have HB2 := Lib.hid (HB1.out.below hb2)
        obtain ⟨a0, a1, _, _⟩ := HA2.out
        obtain ⟨b0, b1, _, _⟩ := HB2.out
        go_wp2_with fail
        go_quiet (fail)
        go_wp2_with fail
        go_ret
        exact ⟨rfl, (two2 hb hb2).drewN _⟩

theorem rfloor_facts (n d : Int) (hd : 1 ≤ d) : (n < n.tdiv d * d → n.tdiv d - 1 = n / d) ∧ (n.tdiv d * d ≤ n → n.tdiv d = n / d) := by
  have e := Int.tmod_add_mul_tdiv n d
  have h := floor_facts n d hd
  rw [Int.mul_comm] at e
  exact ⟨fun k => h.1 (by omega), fun k => h.2 (by omega)⟩

set_option maxHeartbeats 800000 in
theorem rfloor_all (n d : Int) (w : World) :
    Calls Tryd.prog 21 #[.agg #[.int .i64 n, .int .i64 d]] w (Says (.int .i64 (floorF n d)) w) := by
  unfold floorF
  by_cases h : okF n d = true
  · rw [if_pos h]
    have H := Lib.hid h
    rw [okF_iff] at h
    have hd : 1 ≤ d := h.1
    have hd2 : d ≤ 1073741824 := h.2.1
    have hn1 : -1073741824 ≤ n := h.2.2.1
    have hn2 : n ≤ 1073741824 := h.2.2.2.1
    have hd0 : ¬ d = 0 := by omega
    have q := tdiv_bd n d hd ⟨hn1, hn2⟩
    have q2 := mul_bd (n.tdiv d) d q (by omega)
    have F := rfloor_facts n d hd
    clear h
    generalize hz : n / d = z at F
    by_cases hm : n < n.tdiv d * d
    · have HQ := Lib.hid (F.1 hm)
      clear F hz
      go_enter Tryd.func21, Tryd.ntmps21
      go_wp2_with fail
      refine (rvalid_any n d _ H.out _).mono ?_
      rintro e w1 ⟨rfl, hb⟩
      obtain ⟨hc, hf⟩ := bcell hb
      have hz : w.heap.size < w1.heap.size := by have := hb.size; simp at this; omega
      go_wp2_with fail
      go_ret
      exact ⟨ret_int HQ.out, one1 hb⟩
    · have HQ := Lib.hid (F.2 (by omega))
      clear F hz
      go_enter Tryd.func21, Tryd.ntmps21
      go_wp2_with fail
      refine (rvalid_any n d _ H.out _).mono ?_
      rintro e w1 ⟨rfl, hb⟩
      obtain ⟨hc, hf⟩ := bcell hb
      have hz : w.heap.size < w1.heap.size := by have := hb.size; simp at this; omega
      go_wp2_with fail
      go_ret
      exact ⟨ret_int HQ.out, one1 hb⟩
  · rw [if_neg h]
    have H := Lib.hid (show okF n d = false by simpa using h)
    clear h
    go_enter Tryd.func21, Tryd.ntmps21
    go_wp2_with fail
    refine (rvalid_any n d _ H.out _).mono ?_
    rintro e w1 ⟨rfl, hb⟩
    go_wp2_with fail
    go_ret
    exact ⟨rfl, one1 hb⟩

set_option maxHeartbeats 800000 in
theorem rceil_all (n d : Int) (w : World) :
    Calls Tryd.prog 23 #[.agg #[.int .i64 n, .int .i64 d]] w (Says (.int .i64 (ceilF n d)) w) := by
  by_cases h : okF n d = true
  · have H := Lib.hid h
    have hv : -(floorF (-n) d) = ceilF n d := by
      unfold floorF ceilF
      rw [okF_neg, if_pos h, if_pos h]
    have HV := Lib.hid hv
    have bd := floorF_bd (-n) d
    rw [okF_iff] at h
    have hn1 : -1073741824 ≤ n := h.2.2.1
    have hn2 : n ≤ 1073741824 := h.2.2.2.1
    clear hv h
    go_enter Tryd.func23, Tryd.ntmps23
    go_wp2_with fail
    refine (rvalid_any n d _ H.out _).mono ?_
    rintro e w1 ⟨rfl, hb⟩
    obtain ⟨hc, hf⟩ := bcell hb
    have hz : w.heap.size < w1.heap.size := by have := hb.size; simp at this; omega
    go_wp2_with fail
    refine (rfloor_all (-n) d _).mono ?_
    rintro e w2 ⟨rfl, hb2⟩
    go_wp2_with fail
    go_ret
    exact ⟨ret_int HV.out, (one1 hb).trans (hb2.mono (one1 hb).size)⟩
  · have e0 : ceilF n d = 0 := by unfold ceilF; rw [if_neg h]
    rw [e0]
    have H := Lib.hid (show okF n d = false by simpa using h)
    clear h e0
    go_enter Tryd.func23, Tryd.ntmps23
    go_wp2_with fail
    refine (rvalid_any n d _ H.out _).mono ?_
    rintro e w1 ⟨rfl, hb⟩
    go_wp2_with fail
    go_ret
    exact ⟨rfl, one1 hb⟩

end Go.Proofs.YtkdpglpdcjhhkaaDoor
