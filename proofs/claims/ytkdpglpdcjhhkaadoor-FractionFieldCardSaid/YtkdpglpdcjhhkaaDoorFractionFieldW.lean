/- The walk of FractionField. Written by wip/genfield.py. By the verifier's side. -/
import Derived.Test.YtkdpglpdcjhhkaaDoorAwake
import Derived.Test.YtkdpglpdcjhhkaaDoorBox
import Derived.Test.YtkdpglpdcjhhkaaDoorMathC
import Derived.Deep.RegionHeld3
import Derived.Deep.DeepCutAuto
namespace Go.Proofs.YtkdpglpdcjhhkaaDoor
open Go.RowKit
set_option linter.unusedSimpArgs false

set_option maxRecDepth 100000 in
set_option maxHeartbeats 6400000 in
theorem fractionField_walk (W : World) (h0 : Lib0 W) (a : Option Addr) (n cap : Nat) (hrow : RowAt W a n cap) :
    Calls Tryd.prog 4 #[.slice a n cap] W fun e w' => e = .returned (.bool true) ∧ Below W.heap.size W w' := by
  have H0 := Lib.hid h0
  have HR := Lib.hid hrow
  clear h0 hrow
  go_enter Tryd.func4, Tryd.ntmps4
  go_wp2_with fail
  refine (new_any a n cap _ HR.out).mono ?_
  rintro e w1 ⟨rfl, hb1, hz1, a1, n1, cap1, hs1⟩
  have HB1 := Lib.hid hb1
  have HS1 := Lib.hid hs1
  clear hb1 hz1 hs1
  go_wp2_with fail
  refine (frac_any 9 9 (by omega) (by omega) (by omega) (by omega) _ a1 n1 cap1 _ HS1.out).mono ?_
  rintro e w2 ⟨A, dA, hA, rfl, hs2, he2⟩
  have HS2 := Lib.hid hs2
  have HB2 := Lib.hid (HB1.out.trans (he2.below (Nat.le_refl _) HB1.out.size))
  have GA := Lib.hid hA.2.2.2.2
  have A0 := hA.1
  have A1 := hA.2.1
  have A2 := hA.2.2.1
  have A3 := hA.2.2.2.1
  clear hs2 he2 hA
  go_wp2_with fail
  refine (frac_any 9 9 (by omega) (by omega) (by omega) (by omega) _ a1 n1 cap1 _ HS2.out).mono ?_
  rintro e w3 ⟨B, dB, hB, rfl, hs3, he3⟩
  have HS3 := Lib.hid hs3
  have HB3 := Lib.hid (HB2.out.trans (he3.below (Nat.le_refl _) HB2.out.size))
  have GB := Lib.hid hB.2.2.2.2
  have B0 := hB.1
  have B1 := hB.2.1
  have B2 := hB.2.2.1
  have B3 := hB.2.2.2.1
  clear hs3 he3 hB
  go_wp2_with fail
  refine (frac_any 9 9 (by omega) (by omega) (by omega) (by omega) _ a1 n1 cap1 _ HS3.out).mono ?_
  rintro e w4 ⟨C, dC, hC, rfl, hs4, he4⟩
  have HS4 := Lib.hid hs4
  have HB4 := Lib.hid (HB3.out.trans (he4.below (Nat.le_refl _) HB3.out.size))
  have GC := Lib.hid hC.2.2.2.2
  have C0 := hC.1
  have C1 := hC.2.1
  have C2 := hC.2.2.1
  have C3 := hC.2.2.2.1
  clear hs4 he4 hC
  go_wp2_with fail
  have u3 : Below w4.heap.size w4 (((w4.alloc (.cells #[.int .i64 A, .int .i64 dA] 23)).alloc (.cells #[.int .i64 B, .int .i64 dB] 23)).alloc (.cells #[.int .i64 C, .int .i64 dC] 23)) := (((Below.refl _ _).alloc (Nat.le_refl _) _).alloc (by simp) _).alloc (by simp; omega) _
  have U3 := Lib.hid u3
  clear u3
  refine (n_any 2 (by omega) (by omega) _ a1 n1 cap1 _ (HS4.out.under U3.out)).mono ?_
  rintro e w5 ⟨r, hr, rfl, hs5, he5⟩
  have hsz : W.heap.size < w4.heap.size := HS4.out.lt
  have HE5 := Lib.hid he5
  have HB5 : Hid (Below W.heap.size W w5) := Lib.hid ((HB4.out.trans (U3.out.mono HB4.out.size)).trans (HE5.out.below (Nat.le_refl _)))
  have BA := Lib.hid ((((Box.new w4 A dA 23).alloc (.cells #[.int .i64 B, .int .i64 dB] 23)).alloc (.cells #[.int .i64 C, .int .i64 dC] 23)).else HE5.out (Nat.ne_of_gt hsz))
  have BB := Lib.hid (((Box.new (w4.alloc (.cells #[.int .i64 A, .int .i64 dA] 23)) B dB 23).alloc (.cells #[.int .i64 C, .int .i64 dC] 23)).else HE5.out (Nat.ne_of_gt (by simp; omega)))
  have BC := Lib.hid ((Box.new ((w4.alloc (.cells #[.int .i64 A, .int .i64 dA] 23)).alloc (.cells #[.int .i64 B, .int .i64 dB] 23)) C dC 23).else HE5.out (Nat.ne_of_gt (by simp; omega)))
  rw [show (w4.alloc (.cells #[.int .i64 A, .int .i64 dA] 23)).heap.size = w4.heap.size + 1 by simp] at BB
  rw [show ((w4.alloc (.cells #[.int .i64 A, .int .i64 dA] 23)).alloc (.cells #[.int .i64 B, .int .i64 dB] 23)).heap.size = w4.heap.size + 1 + 1 by simp] at BC
  clear hs5 he5
  go_upto_if 26 with fail
  go_cut [4, 5, 6] (fun s4 s5 s6 wx => ∃ (pa pb pc : Nat) (x : Int), (x = B ∨ x = -B) ∧ s4 = .pointer (some ⟨pa, 0, none⟩) ∧ s5 = .pointer (some ⟨pb, 0, none⟩) ∧ s6 = .pointer (some ⟨pc, 0, none⟩) ∧ pa < pb ∧ pb < pc ∧
    Hid (Box wx pa A dA) ∧ Hid (Box wx pb x dB) ∧ Hid (Box wx pc C dC) ∧ Hid (Below W.heap.size W wx) ∧ W.heap.size ≤ pa)
  case first =>
    obtain ⟨c0, c1, f0, f1⟩ := BB.out
    by_cases h0 : r = 0
    · have hb0 : (r == 0) = true := by simpa using h0
      subst h0
      go_wp2_with fail
      go_meet
      exact ⟨w4.heap.size, w4.heap.size + 1, w4.heap.size + 1 + 1, -B, Or.inr rfl, rfl, rfl, rfl, by omega, by omega, BA.out.other (by omega) _ _, BB.out.set0 _, BC.out.other (by omega) _ _, HB5.out.setCell (by simp; omega) _, by omega⟩
    · have hb0 : (r == 0) = false := by simpa using h0
      go_wp2_with fail
      go_meet
      exact ⟨w4.heap.size, w4.heap.size + 1, w4.heap.size + 1 + 1, B, Or.inl rfl, rfl, rfl, rfl, by omega, by omega, BA, BB, BC, HB5, by omega⟩
  case rest =>
    obtain ⟨w6, rfl⟩ : ∃ u : World, u = wc := ⟨_, rfl⟩
    obtain ⟨pa, pb, pc, x, hx, rfl, rfl, rfl, hab, hbc, PA, PB, PC, HB6, hWa⟩ := hcut
    have gx : Nat.gcd x.natAbs dB.natAbs = 1 := by
      rcases hx with h | h
      · rw [h]; exact GB.out
      · rw [h, Int.natAbs_neg]; exact GB.out
    have bx : -81 ≤ x ∧ x ≤ 81 := by omega
    have KA := Lib.hid (okF_of A dA A2 (by omega) (by omega) GA.out)
    have KB := Lib.hid (okF_of x dB B2 (by omega) (by omega) gx)
    have KC := Lib.hid (okF_of C dC C2 (by omega) (by omega) GC.out)
    clear gx hx
    obtain ⟨xn, xd, un, ud, pn, pd, qn, qd, ox, op, oq, n1, n2, n3, n4, n5, n6, n7, n8⟩ := field_math A dA x dB C dC KA.out (by omega) bx (by omega) A2 (by omega) B2 (by omega) C2 (by omega)
    have KX := Lib.hid ox
    have KP := Lib.hid op
    have KQ := Lib.hid oq
    have N1 := Lib.hid n1
    have N2 := Lib.hid n2
    have N3 := Lib.hid n3
    have N4 := Lib.hid n4
    have N5 := Lib.hid n5
    have N6 := Lib.hid n6
    have N7 := Lib.hid n7
    have N8 := Lib.hid n8
    clear ox op oq n1 n2 n3 n4 n5 n6 n7 n8
    have ltb := PB.out.lt
    have ltc := PC.out.lt
    obtain ⟨A_0, A_1, A_2, A_3⟩ := PA.out
    obtain ⟨A_4, A_5, A_6, A_7⟩ := lt5 PA.out.lt
    obtain ⟨B_0, B_1, B_2, B_3⟩ := PB.out
    obtain ⟨B_4, B_5, B_6, B_7⟩ := lt5 PB.out.lt
    obtain ⟨C_0, C_1, C_2, C_3⟩ := PC.out
    obtain ⟨C_4, C_5, C_6, C_7⟩ := lt5 PC.out.lt
    go_wp2_with fail
    refine (add_yes A dA x dB KA.out KB.out _).mono ?_
    rintro e w7 ⟨he, hb⟩
    rw [N1.out] at he
    subst he
    have QA := Lib.hid (Box.below PA.out hb)
    have QB := Lib.hid (Box.below PB.out hb)
    have QC := Lib.hid (Box.below PC.out hb)
    have HB7 : Hid (Below W.heap.size W w7) := Lib.hid (Below.trans HB6.out (hb.mono (Below.size HB6.out)))
    clear A_0 A_1 A_2 A_3 A_4 A_5 A_6 A_7 B_0 B_1 B_2 B_3 B_4 B_5 B_6 B_7 C_0 C_1 C_2 C_3 C_4 C_5 C_6 C_7 hb
    clear PA PB PC
    have PA := QA
    clear QA
    have PB := QB
    clear QB
    have PC := QC
    clear QC
    have z7 : pc < w7.heap.size := PC.out.lt
    obtain ⟨A_0, A_1, A_2, A_3⟩ := PA.out
    obtain ⟨A_4, A_5, A_6, A_7⟩ := lt5 PA.out.lt
    obtain ⟨B_0, B_1, B_2, B_3⟩ := PB.out
    obtain ⟨B_4, B_5, B_6, B_7⟩ := lt5 PB.out.lt
    obtain ⟨C_0, C_1, C_2, C_3⟩ := PC.out
    obtain ⟨C_4, C_5, C_6, C_7⟩ := lt5 PC.out.lt
    go_wp2_with fail
    refine (add_yes x dB A dA KB.out KA.out _).mono ?_
    rintro e w8 ⟨he, hb⟩
    rw [N2.out] at he
    subst he
    have QA := Lib.hid (Box.below (Box.alloc PA.out _) hb)
    have QB := Lib.hid (Box.below (Box.alloc PB.out _) hb)
    have QC := Lib.hid (Box.below (Box.alloc PC.out _) hb)
    have QX := Lib.hid (Box.below (Box.new _ _ _ _) hb)
    have HB8 : Hid (Below W.heap.size W w8) := Lib.hid (Below.trans (Below.alloc HB7.out (by have := HB7.out.size; simp; try omega) _) (hb.mono (Below.size (Below.alloc HB7.out (by have := HB7.out.size; simp; try omega) _))))
    clear A_0 A_1 A_2 A_3 A_4 A_5 A_6 A_7 B_0 B_1 B_2 B_3 B_4 B_5 B_6 B_7 C_0 C_1 C_2 C_3 C_4 C_5 C_6 C_7 hb
    clear PA PB PC
    have PA := QA
    clear QA
    have PB := QB
    clear QB
    have PC := QC
    clear QC
    have PX := QX
    clear QX
    have z8 : w7.heap.size < w8.heap.size := PX.out.lt
    obtain ⟨A_0, A_1, A_2, A_3⟩ := PA.out
    obtain ⟨A_4, A_5, A_6, A_7⟩ := lt5 PA.out.lt
    obtain ⟨B_0, B_1, B_2, B_3⟩ := PB.out
    obtain ⟨B_4, B_5, B_6, B_7⟩ := lt5 PB.out.lt
    obtain ⟨C_0, C_1, C_2, C_3⟩ := PC.out
    obtain ⟨C_4, C_5, C_6, C_7⟩ := lt5 PC.out.lt
    obtain ⟨X_0, X_1, X_2, X_3⟩ := PX.out
    obtain ⟨X_4, X_5, X_6, X_7⟩ := lt5 PX.out.lt
    go_wp2_with fail
    refine (sub_yes xn xd x dB KX.out KB.out _).mono ?_
    rintro e w9 ⟨he, hb⟩
    rw [N3.out] at he
    subst he
    have QA := Lib.hid (Box.below (Box.alloc PA.out _) hb)
    have QB := Lib.hid (Box.below (Box.alloc PB.out _) hb)
    have QC := Lib.hid (Box.below (Box.alloc PC.out _) hb)
    have QX := Lib.hid (Box.below (Box.alloc PX.out _) hb)
    have QY := Lib.hid (Box.below (Box.new _ _ _ _) hb)
    have HB9 : Hid (Below W.heap.size W w9) := Lib.hid (Below.trans (Below.alloc HB8.out (by have := HB8.out.size; simp; try omega) _) (hb.mono (Below.size (Below.alloc HB8.out (by have := HB8.out.size; simp; try omega) _))))
    clear A_0 A_1 A_2 A_3 A_4 A_5 A_6 A_7 B_0 B_1 B_2 B_3 B_4 B_5 B_6 B_7 C_0 C_1 C_2 C_3 C_4 C_5 C_6 C_7 X_0 X_1 X_2 X_3 X_4 X_5 X_6 X_7 hb
    clear PA PB PC PX
    have PA := QA
    clear QA
    have PB := QB
    clear QB
    have PC := QC
    clear QC
    have PX := QX
    clear QX
    have PY := QY
    clear QY
    have z9 : w8.heap.size < w9.heap.size := PY.out.lt
    obtain ⟨A_0, A_1, A_2, A_3⟩ := PA.out
    obtain ⟨A_4, A_5, A_6, A_7⟩ := lt5 PA.out.lt
    obtain ⟨B_0, B_1, B_2, B_3⟩ := PB.out
    obtain ⟨B_4, B_5, B_6, B_7⟩ := lt5 PB.out.lt
    obtain ⟨C_0, C_1, C_2, C_3⟩ := PC.out
    obtain ⟨C_4, C_5, C_6, C_7⟩ := lt5 PC.out.lt
    obtain ⟨X_0, X_1, X_2, X_3⟩ := PX.out
    obtain ⟨X_4, X_5, X_6, X_7⟩ := lt5 PX.out.lt
    obtain ⟨Y_0, Y_1, Y_2, Y_3⟩ := PY.out
    obtain ⟨Y_4, Y_5, Y_6, Y_7⟩ := lt5 PY.out.lt
    go_wp2_with fail
    refine (mul_yes xn xd C dC KX.out KC.out _).mono ?_
    rintro e w10 ⟨he, hb⟩
    rw [N4.out] at he
    subst he
    have QA := Lib.hid (Box.below (Box.alloc PA.out _) hb)
    have QB := Lib.hid (Box.below (Box.alloc PB.out _) hb)
    have QC := Lib.hid (Box.below (Box.alloc PC.out _) hb)
    have QX := Lib.hid (Box.below (Box.alloc PX.out _) hb)
    have QY := Lib.hid (Box.below (Box.alloc PY.out _) hb)
    have QZ := Lib.hid (Box.below (Box.new _ _ _ _) hb)
    have HB10 : Hid (Below W.heap.size W w10) := Lib.hid (Below.trans (Below.alloc HB9.out (by have := HB9.out.size; simp; try omega) _) (hb.mono (Below.size (Below.alloc HB9.out (by have := HB9.out.size; simp; try omega) _))))
    clear A_0 A_1 A_2 A_3 A_4 A_5 A_6 A_7 B_0 B_1 B_2 B_3 B_4 B_5 B_6 B_7 C_0 C_1 C_2 C_3 C_4 C_5 C_6 C_7 X_0 X_1 X_2 X_3 X_4 X_5 X_6 X_7 Y_0 Y_1 Y_2 Y_3 Y_4 Y_5 Y_6 Y_7 hb
    clear PA PB PC PX PY
    have PA := QA
    clear QA
    have PB := QB
    clear QB
    have PC := QC
    clear QC
    have PX := QX
    clear QX
    have PY := QY
    clear QY
    have PZ := QZ
    clear QZ
    have z10 : w9.heap.size < w10.heap.size := PZ.out.lt
    obtain ⟨A_0, A_1, A_2, A_3⟩ := PA.out
    obtain ⟨A_4, A_5, A_6, A_7⟩ := lt5 PA.out.lt
    obtain ⟨B_0, B_1, B_2, B_3⟩ := PB.out
    obtain ⟨B_4, B_5, B_6, B_7⟩ := lt5 PB.out.lt
    obtain ⟨C_0, C_1, C_2, C_3⟩ := PC.out
    obtain ⟨C_4, C_5, C_6, C_7⟩ := lt5 PC.out.lt
    obtain ⟨X_0, X_1, X_2, X_3⟩ := PX.out
    obtain ⟨X_4, X_5, X_6, X_7⟩ := lt5 PX.out.lt
    obtain ⟨Y_0, Y_1, Y_2, Y_3⟩ := PY.out
    obtain ⟨Y_4, Y_5, Y_6, Y_7⟩ := lt5 PY.out.lt
    obtain ⟨Z_0, Z_1, Z_2, Z_3⟩ := PZ.out
    obtain ⟨Z_4, Z_5, Z_6, Z_7⟩ := lt5 PZ.out.lt
    have n_A_X : ¬ pa = w7.heap.size := by omega
    have m_A_X : ¬ w7.heap.size = pa := by omega
    have n_B_X : ¬ pb = w7.heap.size := by omega
    have m_B_X : ¬ w7.heap.size = pb := by omega
    have n_C_X : ¬ pc = w7.heap.size := by omega
    have m_C_X : ¬ w7.heap.size = pc := by omega
    have n_Y_X : ¬ w8.heap.size = w7.heap.size := by omega
    have m_Y_X : ¬ w7.heap.size = w8.heap.size := by omega
    have n_Z_X : ¬ w9.heap.size = w7.heap.size := by omega
    have m_Z_X : ¬ w7.heap.size = w9.heap.size := by omega
    go_wp2_with fail
    refine (mul_yes A dA C dC KA.out KC.out _).mono ?_
    rintro e w11 ⟨he, hb⟩
    rw [N5.out] at he
    subst he
    have QA := Lib.hid (Box.below (Box.other (Box.other PA.out (by omega) _ _) (by omega) _ _) hb)
    have QB := Lib.hid (Box.below (Box.other (Box.other PB.out (by omega) _ _) (by omega) _ _) hb)
    have QC := Lib.hid (Box.below (Box.other (Box.other PC.out (by omega) _ _) (by omega) _ _) hb)
    have QX := Lib.hid (Box.below (Box.set PX.out _ _) hb)
    have QY := Lib.hid (Box.below (Box.other (Box.other PY.out (by omega) _ _) (by omega) _ _) hb)
    have QZ := Lib.hid (Box.below (Box.other (Box.other PZ.out (by omega) _ _) (by omega) _ _) hb)
    have HB11 : Hid (Below W.heap.size W w11) := Lib.hid (Below.trans (Below.setCell (Below.setCell HB10.out (by simp; omega) _) (by simp; omega) _) (hb.mono (Below.size (Below.setCell (Below.setCell HB10.out (by simp; omega) _) (by simp; omega) _))))
    clear A_0 A_1 A_2 A_3 A_4 A_5 A_6 A_7 B_0 B_1 B_2 B_3 B_4 B_5 B_6 B_7 C_0 C_1 C_2 C_3 C_4 C_5 C_6 C_7 X_0 X_1 X_2 X_3 X_4 X_5 X_6 X_7 Y_0 Y_1 Y_2 Y_3 Y_4 Y_5 Y_6 Y_7 Z_0 Z_1 Z_2 Z_3 Z_4 Z_5 Z_6 Z_7 n_A_X m_A_X n_B_X m_B_X n_C_X m_C_X n_Y_X m_Y_X n_Z_X m_Z_X hb
    clear PA PB PC PX PY PZ
    have PA := QA
    clear QA
    have PB := QB
    clear QB
    have PC := QC
    clear QC
    have PX := QX
    clear QX
    have PY := QY
    clear QY
    have PZ := QZ
    clear QZ
    have z11 : w9.heap.size < w11.heap.size := PZ.out.lt
    obtain ⟨A_0, A_1, A_2, A_3⟩ := PA.out
    obtain ⟨A_4, A_5, A_6, A_7⟩ := lt5 PA.out.lt
    obtain ⟨B_0, B_1, B_2, B_3⟩ := PB.out
    obtain ⟨B_4, B_5, B_6, B_7⟩ := lt5 PB.out.lt
    obtain ⟨C_0, C_1, C_2, C_3⟩ := PC.out
    obtain ⟨C_4, C_5, C_6, C_7⟩ := lt5 PC.out.lt
    obtain ⟨X_0, X_1, X_2, X_3⟩ := PX.out
    obtain ⟨X_4, X_5, X_6, X_7⟩ := lt5 PX.out.lt
    obtain ⟨Y_0, Y_1, Y_2, Y_3⟩ := PY.out
    obtain ⟨Y_4, Y_5, Y_6, Y_7⟩ := lt5 PY.out.lt
    obtain ⟨Z_0, Z_1, Z_2, Z_3⟩ := PZ.out
    obtain ⟨Z_4, Z_5, Z_6, Z_7⟩ := lt5 PZ.out.lt
    go_wp2_with fail
    refine (mul_yes C dC x dB KC.out KB.out _).mono ?_
    rintro e w12 ⟨he, hb⟩
    rw [N6.out] at he
    subst he
    have QA := Lib.hid (Box.below (Box.alloc PA.out _) hb)
    have QB := Lib.hid (Box.below (Box.alloc PB.out _) hb)
    have QC := Lib.hid (Box.below (Box.alloc PC.out _) hb)
    have QX := Lib.hid (Box.below (Box.alloc PX.out _) hb)
    have QY := Lib.hid (Box.below (Box.alloc PY.out _) hb)
    have QZ := Lib.hid (Box.below (Box.alloc PZ.out _) hb)
    have QP := Lib.hid (Box.below (Box.new _ _ _ _) hb)
    have HB12 : Hid (Below W.heap.size W w12) := Lib.hid (Below.trans (Below.alloc HB11.out (by have := HB11.out.size; simp; try omega) _) (hb.mono (Below.size (Below.alloc HB11.out (by have := HB11.out.size; simp; try omega) _))))
    clear A_0 A_1 A_2 A_3 A_4 A_5 A_6 A_7 B_0 B_1 B_2 B_3 B_4 B_5 B_6 B_7 C_0 C_1 C_2 C_3 C_4 C_5 C_6 C_7 X_0 X_1 X_2 X_3 X_4 X_5 X_6 X_7 Y_0 Y_1 Y_2 Y_3 Y_4 Y_5 Y_6 Y_7 Z_0 Z_1 Z_2 Z_3 Z_4 Z_5 Z_6 Z_7 hb
    clear PA PB PC PX PY PZ
    have PA := QA
    clear QA
    have PB := QB
    clear QB
    have PC := QC
    clear QC
    have PX := QX
    clear QX
    have PY := QY
    clear QY
    have PZ := QZ
    clear QZ
    have PP := QP
    clear QP
    have z12 : w11.heap.size < w12.heap.size := PP.out.lt
    obtain ⟨A_0, A_1, A_2, A_3⟩ := PA.out
    obtain ⟨A_4, A_5, A_6, A_7⟩ := lt5 PA.out.lt
    obtain ⟨B_0, B_1, B_2, B_3⟩ := PB.out
    obtain ⟨B_4, B_5, B_6, B_7⟩ := lt5 PB.out.lt
    obtain ⟨C_0, C_1, C_2, C_3⟩ := PC.out
    obtain ⟨C_4, C_5, C_6, C_7⟩ := lt5 PC.out.lt
    obtain ⟨X_0, X_1, X_2, X_3⟩ := PX.out
    obtain ⟨X_4, X_5, X_6, X_7⟩ := lt5 PX.out.lt
    obtain ⟨Y_0, Y_1, Y_2, Y_3⟩ := PY.out
    obtain ⟨Y_4, Y_5, Y_6, Y_7⟩ := lt5 PY.out.lt
    obtain ⟨Z_0, Z_1, Z_2, Z_3⟩ := PZ.out
    obtain ⟨Z_4, Z_5, Z_6, Z_7⟩ := lt5 PZ.out.lt
    obtain ⟨P_0, P_1, P_2, P_3⟩ := PP.out
    obtain ⟨P_4, P_5, P_6, P_7⟩ := lt5 PP.out.lt
    go_wp2_with fail
    refine (add_yes pn pd qn qd KP.out KQ.out _).mono ?_
    rintro e w13 ⟨he, hb⟩
    rw [N7.out] at he
    subst he
    have QA := Lib.hid (Box.below (Box.alloc PA.out _) hb)
    have QB := Lib.hid (Box.below (Box.alloc PB.out _) hb)
    have QC := Lib.hid (Box.below (Box.alloc PC.out _) hb)
    have QX := Lib.hid (Box.below (Box.alloc PX.out _) hb)
    have QY := Lib.hid (Box.below (Box.alloc PY.out _) hb)
    have QZ := Lib.hid (Box.below (Box.alloc PZ.out _) hb)
    have QP := Lib.hid (Box.below (Box.alloc PP.out _) hb)
    have QQ := Lib.hid (Box.below (Box.new _ _ _ _) hb)
    have HB13 : Hid (Below W.heap.size W w13) := Lib.hid (Below.trans (Below.alloc HB12.out (by have := HB12.out.size; simp; try omega) _) (hb.mono (Below.size (Below.alloc HB12.out (by have := HB12.out.size; simp; try omega) _))))
    clear A_0 A_1 A_2 A_3 A_4 A_5 A_6 A_7 B_0 B_1 B_2 B_3 B_4 B_5 B_6 B_7 C_0 C_1 C_2 C_3 C_4 C_5 C_6 C_7 X_0 X_1 X_2 X_3 X_4 X_5 X_6 X_7 Y_0 Y_1 Y_2 Y_3 Y_4 Y_5 Y_6 Y_7 Z_0 Z_1 Z_2 Z_3 Z_4 Z_5 Z_6 Z_7 P_0 P_1 P_2 P_3 P_4 P_5 P_6 P_7 hb
    clear PA PB PC PX PY PZ PP
    have PA := QA
    clear QA
    have PB := QB
    clear QB
    have PC := QC
    clear QC
    have PX := QX
    clear QX
    have PY := QY
    clear QY
    have PZ := QZ
    clear QZ
    have PP := QP
    clear QP
    have PQ := QQ
    clear QQ
    by_cases hC : C = 0
    · have tC : (C == 0) = true := by simpa using hC
      have Z0 : Hid (divF A dA C dC = (0, 0, 2)) := Lib.hid (by unfold divF; rw [if_pos (by rw [KA.out, KC.out]; rfl), hC, Int.mul_zero]; exact newF_zero _)
      clear hC
      obtain ⟨A_0, A_1, A_2, A_3⟩ := PA.out
      obtain ⟨A_4, A_5, A_6, A_7⟩ := lt5 PA.out.lt
      obtain ⟨B_0, B_1, B_2, B_3⟩ := PB.out
      obtain ⟨B_4, B_5, B_6, B_7⟩ := lt5 PB.out.lt
      obtain ⟨C_0, C_1, C_2, C_3⟩ := PC.out
      obtain ⟨C_4, C_5, C_6, C_7⟩ := lt5 PC.out.lt
      obtain ⟨X_0, X_1, X_2, X_3⟩ := PX.out
      obtain ⟨X_4, X_5, X_6, X_7⟩ := lt5 PX.out.lt
      obtain ⟨Y_0, Y_1, Y_2, Y_3⟩ := PY.out
      obtain ⟨Y_4, Y_5, Y_6, Y_7⟩ := lt5 PY.out.lt
      obtain ⟨Z_0, Z_1, Z_2, Z_3⟩ := PZ.out
      obtain ⟨Z_4, Z_5, Z_6, Z_7⟩ := lt5 PZ.out.lt
      obtain ⟨P_0, P_1, P_2, P_3⟩ := PP.out
      obtain ⟨P_4, P_5, P_6, P_7⟩ := lt5 PP.out.lt
      obtain ⟨Q_0, Q_1, Q_2, Q_3⟩ := PQ.out
      obtain ⟨Q_4, Q_5, Q_6, Q_7⟩ := lt5 PQ.out.lt
      have n_A_Y : ¬ pa = w8.heap.size := by omega
      have m_A_Y : ¬ w8.heap.size = pa := by omega
      have n_B_Y : ¬ pb = w8.heap.size := by omega
      have m_B_Y : ¬ w8.heap.size = pb := by omega
      have n_C_Y : ¬ pc = w8.heap.size := by omega
      have m_C_Y : ¬ w8.heap.size = pc := by omega
      have n_X_Y : ¬ w7.heap.size = w8.heap.size := by omega
      have m_X_Y : ¬ w8.heap.size = w7.heap.size := by omega
      have n_Z_Y : ¬ w9.heap.size = w8.heap.size := by omega
      have m_Z_Y : ¬ w8.heap.size = w9.heap.size := by omega
      have n_P_Y : ¬ w11.heap.size = w8.heap.size := by omega
      have m_P_Y : ¬ w8.heap.size = w11.heap.size := by omega
      have n_Q_Y : ¬ w12.heap.size = w8.heap.size := by omega
      have m_Q_Y : ¬ w8.heap.size = w12.heap.size := by omega
      go_wp2_with fail
      refine (div_all A dA C dC _).mono ?_
      rintro e w14 ⟨he, hb⟩
      rw [Z0.out] at he
      subst he
      have QA := Lib.hid (Box.below (Box.other (Box.other PA.out (by omega) _ _) (by omega) _ _) hb)
      have QB := Lib.hid (Box.below (Box.other (Box.other PB.out (by omega) _ _) (by omega) _ _) hb)
      have QC := Lib.hid (Box.below (Box.other (Box.other PC.out (by omega) _ _) (by omega) _ _) hb)
      have QX := Lib.hid (Box.below (Box.other (Box.other PX.out (by omega) _ _) (by omega) _ _) hb)
      have QY := Lib.hid (Box.below (Box.set PY.out _ _) hb)
      have QZ := Lib.hid (Box.below (Box.other (Box.other PZ.out (by omega) _ _) (by omega) _ _) hb)
      have QP := Lib.hid (Box.below (Box.other (Box.other PP.out (by omega) _ _) (by omega) _ _) hb)
      have QQ := Lib.hid (Box.below (Box.other (Box.other PQ.out (by omega) _ _) (by omega) _ _) hb)
      have HB14 : Hid (Below W.heap.size W w14) := Lib.hid (Below.trans (Below.setCell (Below.setCell HB13.out (by simp; omega) _) (by simp; omega) _) (hb.mono (Below.size (Below.setCell (Below.setCell HB13.out (by simp; omega) _) (by simp; omega) _))))
      clear A_0 A_1 A_2 A_3 A_4 A_5 A_6 A_7 B_0 B_1 B_2 B_3 B_4 B_5 B_6 B_7 C_0 C_1 C_2 C_3 C_4 C_5 C_6 C_7 X_0 X_1 X_2 X_3 X_4 X_5 X_6 X_7 Y_0 Y_1 Y_2 Y_3 Y_4 Y_5 Y_6 Y_7 Z_0 Z_1 Z_2 Z_3 Z_4 Z_5 Z_6 Z_7 P_0 P_1 P_2 P_3 P_4 P_5 P_6 P_7 Q_0 Q_1 Q_2 Q_3 Q_4 Q_5 Q_6 Q_7 n_A_Y m_A_Y n_B_Y m_B_Y n_C_Y m_C_Y n_X_Y m_X_Y n_Z_Y m_Z_Y n_P_Y m_P_Y n_Q_Y m_Q_Y hb
      clear PA PB PC PX PY PZ PP PQ
      have PA := QA
      clear QA
      have PB := QB
      clear QB
      have PC := QC
      clear QC
      have PX := QX
      clear QX
      have PY := QY
      clear QY
      have PZ := QZ
      clear QZ
      have PP := QP
      clear QP
      have PQ := QQ
      clear QQ
      obtain ⟨A_0, A_1, A_2, A_3⟩ := PA.out
      obtain ⟨A_4, A_5, A_6, A_7⟩ := lt5 PA.out.lt
      obtain ⟨B_0, B_1, B_2, B_3⟩ := PB.out
      obtain ⟨B_4, B_5, B_6, B_7⟩ := lt5 PB.out.lt
      obtain ⟨C_0, C_1, C_2, C_3⟩ := PC.out
      obtain ⟨C_4, C_5, C_6, C_7⟩ := lt5 PC.out.lt
      obtain ⟨X_0, X_1, X_2, X_3⟩ := PX.out
      obtain ⟨X_4, X_5, X_6, X_7⟩ := lt5 PX.out.lt
      obtain ⟨Y_0, Y_1, Y_2, Y_3⟩ := PY.out
      obtain ⟨Y_4, Y_5, Y_6, Y_7⟩ := lt5 PY.out.lt
      obtain ⟨Z_0, Z_1, Z_2, Z_3⟩ := PZ.out
      obtain ⟨Z_4, Z_5, Z_6, Z_7⟩ := lt5 PZ.out.lt
      obtain ⟨P_0, P_1, P_2, P_3⟩ := PP.out
      obtain ⟨P_4, P_5, P_6, P_7⟩ := lt5 PP.out.lt
      obtain ⟨Q_0, Q_1, Q_2, Q_3⟩ := PQ.out
      obtain ⟨Q_4, Q_5, Q_6, Q_7⟩ := lt5 PQ.out.lt
      go_wp2_with fail
      refine (awake_all _ (H0.out.below HB14.out)).mono ?_
      rintro e w15 ⟨rfl, hb⟩
      go_wp2_with fail
      go_ret
      exact ⟨rfl, Below.trans HB14.out (hb.mono (Below.size HB14.out))⟩
    · have tC : (C == 0) = false := by simpa using hC
      have N9 := Lib.hid (N8.out hC)
      clear hC
      obtain ⟨A_0, A_1, A_2, A_3⟩ := PA.out
      obtain ⟨A_4, A_5, A_6, A_7⟩ := lt5 PA.out.lt
      obtain ⟨B_0, B_1, B_2, B_3⟩ := PB.out
      obtain ⟨B_4, B_5, B_6, B_7⟩ := lt5 PB.out.lt
      obtain ⟨C_0, C_1, C_2, C_3⟩ := PC.out
      obtain ⟨C_4, C_5, C_6, C_7⟩ := lt5 PC.out.lt
      obtain ⟨X_0, X_1, X_2, X_3⟩ := PX.out
      obtain ⟨X_4, X_5, X_6, X_7⟩ := lt5 PX.out.lt
      obtain ⟨Y_0, Y_1, Y_2, Y_3⟩ := PY.out
      obtain ⟨Y_4, Y_5, Y_6, Y_7⟩ := lt5 PY.out.lt
      obtain ⟨Z_0, Z_1, Z_2, Z_3⟩ := PZ.out
      obtain ⟨Z_4, Z_5, Z_6, Z_7⟩ := lt5 PZ.out.lt
      obtain ⟨P_0, P_1, P_2, P_3⟩ := PP.out
      obtain ⟨P_4, P_5, P_6, P_7⟩ := lt5 PP.out.lt
      obtain ⟨Q_0, Q_1, Q_2, Q_3⟩ := PQ.out
      obtain ⟨Q_4, Q_5, Q_6, Q_7⟩ := lt5 PQ.out.lt
      have n_A_Y : ¬ pa = w8.heap.size := by omega
      have m_A_Y : ¬ w8.heap.size = pa := by omega
      have n_B_Y : ¬ pb = w8.heap.size := by omega
      have m_B_Y : ¬ w8.heap.size = pb := by omega
      have n_C_Y : ¬ pc = w8.heap.size := by omega
      have m_C_Y : ¬ w8.heap.size = pc := by omega
      have n_X_Y : ¬ w7.heap.size = w8.heap.size := by omega
      have m_X_Y : ¬ w8.heap.size = w7.heap.size := by omega
      have n_Z_Y : ¬ w9.heap.size = w8.heap.size := by omega
      have m_Z_Y : ¬ w8.heap.size = w9.heap.size := by omega
      have n_P_Y : ¬ w11.heap.size = w8.heap.size := by omega
      have m_P_Y : ¬ w8.heap.size = w11.heap.size := by omega
      have n_Q_Y : ¬ w12.heap.size = w8.heap.size := by omega
      have m_Q_Y : ¬ w8.heap.size = w12.heap.size := by omega
      go_wp2_with fail
      refine (div_yes pn pd C dC KP.out KC.out _).mono ?_
      rintro e w14 ⟨he, hb⟩
      rw [N9.out] at he
      subst he
      have QA := Lib.hid (Box.below (Box.other (Box.other PA.out (by omega) _ _) (by omega) _ _) hb)
      have QB := Lib.hid (Box.below (Box.other (Box.other PB.out (by omega) _ _) (by omega) _ _) hb)
      have QC := Lib.hid (Box.below (Box.other (Box.other PC.out (by omega) _ _) (by omega) _ _) hb)
      have QX := Lib.hid (Box.below (Box.other (Box.other PX.out (by omega) _ _) (by omega) _ _) hb)
      have QY := Lib.hid (Box.below (Box.set PY.out _ _) hb)
      have QZ := Lib.hid (Box.below (Box.other (Box.other PZ.out (by omega) _ _) (by omega) _ _) hb)
      have QP := Lib.hid (Box.below (Box.other (Box.other PP.out (by omega) _ _) (by omega) _ _) hb)
      have QQ := Lib.hid (Box.below (Box.other (Box.other PQ.out (by omega) _ _) (by omega) _ _) hb)
      have HB14 : Hid (Below W.heap.size W w14) := Lib.hid (Below.trans (Below.setCell (Below.setCell HB13.out (by simp; omega) _) (by simp; omega) _) (hb.mono (Below.size (Below.setCell (Below.setCell HB13.out (by simp; omega) _) (by simp; omega) _))))
      clear A_0 A_1 A_2 A_3 A_4 A_5 A_6 A_7 B_0 B_1 B_2 B_3 B_4 B_5 B_6 B_7 C_0 C_1 C_2 C_3 C_4 C_5 C_6 C_7 X_0 X_1 X_2 X_3 X_4 X_5 X_6 X_7 Y_0 Y_1 Y_2 Y_3 Y_4 Y_5 Y_6 Y_7 Z_0 Z_1 Z_2 Z_3 Z_4 Z_5 Z_6 Z_7 P_0 P_1 P_2 P_3 P_4 P_5 P_6 P_7 Q_0 Q_1 Q_2 Q_3 Q_4 Q_5 Q_6 Q_7 n_A_Y m_A_Y n_B_Y m_B_Y n_C_Y m_C_Y n_X_Y m_X_Y n_Z_Y m_Z_Y n_P_Y m_P_Y n_Q_Y m_Q_Y hb
      clear PA PB PC PX PY PZ PP PQ
      have PA := QA
      clear QA
      have PB := QB
      clear QB
      have PC := QC
      clear QC
      have PX := QX
      clear QX
      have PY := QY
      clear QY
      have PZ := QZ
      clear QZ
      have PP := QP
      clear QP
      have PQ := QQ
      clear QQ
      obtain ⟨A_0, A_1, A_2, A_3⟩ := PA.out
      obtain ⟨A_4, A_5, A_6, A_7⟩ := lt5 PA.out.lt
      obtain ⟨B_0, B_1, B_2, B_3⟩ := PB.out
      obtain ⟨B_4, B_5, B_6, B_7⟩ := lt5 PB.out.lt
      obtain ⟨C_0, C_1, C_2, C_3⟩ := PC.out
      obtain ⟨C_4, C_5, C_6, C_7⟩ := lt5 PC.out.lt
      obtain ⟨X_0, X_1, X_2, X_3⟩ := PX.out
      obtain ⟨X_4, X_5, X_6, X_7⟩ := lt5 PX.out.lt
      obtain ⟨Y_0, Y_1, Y_2, Y_3⟩ := PY.out
      obtain ⟨Y_4, Y_5, Y_6, Y_7⟩ := lt5 PY.out.lt
      obtain ⟨Z_0, Z_1, Z_2, Z_3⟩ := PZ.out
      obtain ⟨Z_4, Z_5, Z_6, Z_7⟩ := lt5 PZ.out.lt
      obtain ⟨P_0, P_1, P_2, P_3⟩ := PP.out
      obtain ⟨P_4, P_5, P_6, P_7⟩ := lt5 PP.out.lt
      obtain ⟨Q_0, Q_1, Q_2, Q_3⟩ := PQ.out
      obtain ⟨Q_4, Q_5, Q_6, Q_7⟩ := lt5 PQ.out.lt
      have n_A_Z : ¬ pa = w9.heap.size := by omega
      have m_A_Z : ¬ w9.heap.size = pa := by omega
      have n_B_Z : ¬ pb = w9.heap.size := by omega
      have m_B_Z : ¬ w9.heap.size = pb := by omega
      have n_C_Z : ¬ pc = w9.heap.size := by omega
      have m_C_Z : ¬ w9.heap.size = pc := by omega
      have n_X_Z : ¬ w7.heap.size = w9.heap.size := by omega
      have m_X_Z : ¬ w9.heap.size = w7.heap.size := by omega
      have n_Y_Z : ¬ w8.heap.size = w9.heap.size := by omega
      have m_Y_Z : ¬ w9.heap.size = w8.heap.size := by omega
      have n_P_Z : ¬ w11.heap.size = w9.heap.size := by omega
      have m_P_Z : ¬ w9.heap.size = w11.heap.size := by omega
      have n_Q_Z : ¬ w12.heap.size = w9.heap.size := by omega
      have m_Q_Z : ¬ w9.heap.size = w12.heap.size := by omega
      go_wp2_with fail
      refine (awake_all _ (H0.out.below (Below.setCell (Below.setCell HB14.out (by simp; omega) _) (by simp; omega) _))).mono ?_
      rintro e w15 ⟨rfl, hb⟩
      go_wp2_with fail
      go_ret
      exact ⟨rfl, Below.trans (Below.setCell (Below.setCell HB14.out (by simp; omega) _) (by simp; omega) _) (hb.mono (Below.size (Below.setCell (Below.setCell HB14.out (by simp; omega) _) (by simp; omega) _)))⟩

end Go.Proofs.YtkdpglpdcjhhkaaDoor
