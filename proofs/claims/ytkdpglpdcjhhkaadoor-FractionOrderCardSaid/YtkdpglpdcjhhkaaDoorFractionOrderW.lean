/- The walk of FractionOrder. Written by wip/genfield.py. By the verifier's side. -/
import Derived.Test.YtkdpglpdcjhhkaaDoorAwake
import Derived.Test.YtkdpglpdcjhhkaaDoorBox
import Derived.Test.YtkdpglpdcjhhkaaDoorMathC
import Derived.Deep.RegionHeld3
import Derived.Deep.DeepCutAuto
namespace Go.Proofs.YtkdpglpdcjhhkaaDoor
open Go.RowKit
set_option linter.unusedSimpArgs false

theorem compareF_bd (x d y q : Int) : -1 ≤ compareF x d y q ∧ compareF x d y q ≤ 1 := by
  unfold compareF Lib.compareInt
  split
  · split
    · omega
    · split <;> omega
  · omega

theorem keep3 {w0 w w' : World} {p q r : Nat} {a b c d e f : Value} (hb : Below w.heap.size w w')
    (h : w.cell? ⟨p, 0, none⟩ = some a ∧ w.cell? ⟨p, 1, none⟩ = some b ∧ w.cell? ⟨q, 0, none⟩ = some c ∧ w.cell? ⟨q, 1, none⟩ = some d ∧ w.cell? ⟨r, 0, none⟩ = some e ∧ w.cell? ⟨r, 1, none⟩ = some f ∧ Hid (Below w0.heap.size w0 w)) :
    w'.cell? ⟨p, 0, none⟩ = some a ∧ w'.cell? ⟨p, 1, none⟩ = some b ∧ w'.cell? ⟨q, 0, none⟩ = some c ∧ w'.cell? ⟨q, 1, none⟩ = some d ∧ w'.cell? ⟨r, 0, none⟩ = some e ∧ w'.cell? ⟨r, 1, none⟩ = some f ∧ Hid (Below w0.heap.size w0 w') := by
  obtain ⟨h1, h2, h3, h4, h5, h6, h7⟩ := h
  exact ⟨(hb.cell (lt_of_cell h1)).trans h1, (hb.cell (lt_of_cell h2)).trans h2, (hb.cell (lt_of_cell h3)).trans h3, (hb.cell (lt_of_cell h4)).trans h4, (hb.cell (lt_of_cell h5)).trans h5, (hb.cell (lt_of_cell h6)).trans h6, h7.out.trans (hb.mono h7.out.size)⟩

set_option maxRecDepth 100000 in
set_option maxHeartbeats 6400000 in
theorem fractionOrder_walk (W : World) (h0 : Lib0 W) (a : Option Addr) (n cap : Nat) (hrow : RowAt W a n cap) :
    Calls Tryd.prog 8 #[.slice a n cap] W fun e w' => e = .returned (.bool true) ∧ Below W.heap.size W w' := by
  have H0 := Lib.hid h0
  have HR := Lib.hid hrow
  clear h0 hrow
  go_enter Tryd.func8, Tryd.ntmps8
  go_wp2_with fail
  refine (new_any a n cap _ HR.out).mono ?_
  rintro e w1 ⟨rfl, hb1, hz1, a1, n1, cap1, hs1⟩
  have HB1 := Lib.hid hb1
  have HS1 := Lib.hid hs1
  clear hb1 hz1 hs1
  go_wp2_with fail
  refine (frac_any 20 9 (by omega) (by omega) (by omega) (by omega) _ a1 n1 cap1 _ HS1.out).mono ?_
  rintro e w2 ⟨A, dA, hA, rfl, hs2, he2⟩
  have HS2 := Lib.hid hs2
  have HB2 := Lib.hid (HB1.out.trans (he2.below (Nat.le_refl _) HB1.out.size))
  have GA := Lib.hid hA.2.2.2.2
  have A0 := hA.1
  have A1 := hA.2.1
  have A2 := hA.2.2.1
  have A3 := hA.2.2.2.1
  clear hs2 he2 hA
  go_wp2_with fail
  refine (frac_any 20 9 (by omega) (by omega) (by omega) (by omega) _ a1 n1 cap1 _ HS2.out).mono ?_
  rintro e w3 ⟨B, dB, hB, rfl, hs3, he3⟩
  have HS3 := Lib.hid hs3
  have HB3 := Lib.hid (HB2.out.trans (he3.below (Nat.le_refl _) HB2.out.size))
  have GB := Lib.hid hB.2.2.2.2
  have B0 := hB.1
  have B1 := hB.2.1
  have B2 := hB.2.2.1
  have B3 := hB.2.2.2.1
  clear hs3 he3 hB
  go_wp2_with fail
  refine (frac_any 20 9 (by omega) (by omega) (by omega) (by omega) _ a1 n1 cap1 _ HS3.out).mono ?_
  rintro e w4 ⟨C, dC, hC, rfl, hs4, he4⟩
  have HS4 := Lib.hid hs4
  have HB4 := Lib.hid (HB3.out.trans (he4.below (Nat.le_refl _) HB3.out.size))
  have GC := Lib.hid hC.2.2.2.2
  have C0 := hC.1
  have C1 := hC.2.1
  have C2 := hC.2.2.1
  have C3 := hC.2.2.2.1
  clear hs4 he4 hC
  go_wp2_with fail
  have u3 : Below w4.heap.size w4 (((w4.alloc (.cells #[.int .i64 A, .int .i64 dA] 23)).alloc (.cells #[.int .i64 B, .int .i64 dB] 23)).alloc (.cells #[.int .i64 C, .int .i64 dC] 23)) := (((Below.refl _ _).alloc (Nat.le_refl _) _).alloc (by simp) _).alloc (by simp; omega) _
  have U3 := Lib.hid u3
  clear u3
  refine (n_any 2 (by omega) (by omega) _ a1 n1 cap1 _ (HS4.out.under U3.out)).mono ?_
  rintro e w5 ⟨r, hr, rfl, hs5, he5⟩
  have hsz : W.heap.size < w4.heap.size := HS4.out.lt
  have HE5 := Lib.hid he5
  have HB5 : Hid (Below W.heap.size W w5) := Lib.hid ((HB4.out.trans (U3.out.mono HB4.out.size)).trans (HE5.out.below (Nat.le_refl _)))
  have BA := Lib.hid ((((Box.new w4 A dA 23).alloc (.cells #[.int .i64 B, .int .i64 dB] 23)).alloc (.cells #[.int .i64 C, .int .i64 dC] 23)).else HE5.out (Nat.ne_of_gt hsz))
  have BB := Lib.hid (((Box.new (w4.alloc (.cells #[.int .i64 A, .int .i64 dA] 23)) B dB 23).alloc (.cells #[.int .i64 C, .int .i64 dC] 23)).else HE5.out (Nat.ne_of_gt (by simp; omega)))
  have BC := Lib.hid ((Box.new ((w4.alloc (.cells #[.int .i64 A, .int .i64 dA] 23)).alloc (.cells #[.int .i64 B, .int .i64 dB] 23)) C dC 23).else HE5.out (Nat.ne_of_gt (by simp; omega)))
  rw [show (w4.alloc (.cells #[.int .i64 A, .int .i64 dA] 23)).heap.size = w4.heap.size + 1 by simp] at BB
  rw [show ((w4.alloc (.cells #[.int .i64 A, .int .i64 dA] 23)).alloc (.cells #[.int .i64 B, .int .i64 dB] 23)).heap.size = w4.heap.size + 1 + 1 by simp] at BC
  clear hs5 he5
  go_upto_if 24 with fail
  go_cut [4, 5, 6] (fun s4 s5 s6 wx => ∃ (pa pb pc : Nat) (x : Int), (x = A ∨ x = -A) ∧ s4 = .pointer (some ⟨pa, 0, none⟩) ∧ s5 = .pointer (some ⟨pb, 0, none⟩) ∧ s6 = .pointer (some ⟨pc, 0, none⟩) ∧ pa < pb ∧ pb < pc ∧
    Hid (Box wx pa x dA) ∧ Hid (Box wx pb B dB) ∧ Hid (Box wx pc C dC) ∧ Hid (Below W.heap.size W wx) ∧ W.heap.size ≤ pa)
  case first =>
    obtain ⟨c0, c1, f0, f1⟩ := BA.out
    by_cases h0 : r = 0
    · have hb0 : (r == 0) = true := by simpa using h0
      subst h0
      go_wp2_with fail
      go_meet
      exact ⟨w4.heap.size, w4.heap.size + 1, w4.heap.size + 1 + 1, -A, Or.inr rfl, rfl, rfl, rfl, by omega, by omega, BA.out.set0 _, BB.out.other (by omega) _ _, BC.out.other (by omega) _ _, HB5.out.setCell (by simp; omega) _, by omega⟩
    · have hb0 : (r == 0) = false := by simpa using h0
      go_wp2_with fail
      go_meet
      exact ⟨w4.heap.size, w4.heap.size + 1, w4.heap.size + 1 + 1, A, Or.inl rfl, rfl, rfl, rfl, by omega, by omega, BA, BB, BC, HB5, by omega⟩
  case rest =>
    obtain ⟨w6, rfl⟩ : ∃ u : World, u = wc := ⟨_, rfl⟩
    obtain ⟨pa, pb, pc, x, hx, rfl, rfl, rfl, hab, hbc, PA, PB, PC, HB6, hWa⟩ := hcut
    have gx : Nat.gcd x.natAbs dA.natAbs = 1 := by
      rcases hx with h | h
      · rw [h]; exact GA.out
      · rw [h, Int.natAbs_neg]; exact GA.out
    have bx : -180 ≤ x ∧ x ≤ 180 := by omega
    have KA := Lib.hid (okF_of x dA A2 (by omega) (by omega) gx)
    have KB := Lib.hid (okF_of B dB B2 (by omega) (by omega) GB.out)
    have KC := Lib.hid (okF_of C dC C2 (by omega) (by omega) GC.out)
    clear gx hx
    obtain ⟨pn, pd, qn, qd, n1, n2, k1, k2, k3, k4⟩ := order_math x dA B dB C dC KA.out KB.out KC.out bx (by omega) (by omega) A2 (by omega) B2 (by omega) C2 (by omega)
    have N1 := Lib.hid n1
    have N2 := Lib.hid n2
    have K1 := Lib.hid k1
    clear n1 n2 k1
    obtain ⟨X1, e1⟩ : ∃ v, compareF x dA B dB = v := ⟨_, rfl⟩
    obtain ⟨Y1, e2⟩ : ∃ v, compareF B dB C dC = v := ⟨_, rfl⟩
    obtain ⟨Z1, e3⟩ : ∃ v, compareF x dA C dC = v := ⟨_, rfl⟩
    obtain ⟨V1, e4⟩ : ∃ v, compareF B dB x dA = v := ⟨_, rfl⟩
    have bX1 := compareF_bd x dA B dB
    have bV1 := compareF_bd B dB x dA
    rw [e1] at bX1 k2 k3 k4
    rw [e2] at k4
    rw [e3] at k4
    rw [e4] at k2 bV1
    have E1 := Lib.hid e1
    have E2 := Lib.hid e2
    have E3 := Lib.hid e3
    have E4 := Lib.hid e4
    have T2 := Lib.hid k2
    have T3 := Lib.hid k3
    have T4 := Lib.hid k4
    clear e1 e2 e3 e4 k2 k3 k4
    have ltb := PB.out.lt
    have ltc := PC.out.lt
    go_upto_region 5 with fail
    go_cut [7, 8, 9] (fun s7 s8 s9 wx => s7 = .int .i64 X1 ∧ s8 = .int .i64 Y1 ∧ s9 = .int .i64 Z1 ∧ Hid (Below w6.heap.size w6 wx))
    case first =>
      obtain ⟨a0, a1, _, _⟩ := PA.out
      obtain ⟨b0, b1, _, _⟩ := PB.out
      obtain ⟨c0, c1, _, _⟩ := PC.out
      go_region_held3 (fun w' => w'.cell? ⟨pa, 0, none⟩ = some (.int .i64 x) ∧ w'.cell? ⟨pa, 1, none⟩ = some (.int .i64 dA) ∧ w'.cell? ⟨pb, 0, none⟩ = some (.int .i64 B) ∧ w'.cell? ⟨pb, 1, none⟩ = some (.int .i64 dB) ∧ w'.cell? ⟨pc, 0, none⟩ = some (.int .i64 C) ∧ w'.cell? ⟨pc, 1, none⟩ = some (.int .i64 dC) ∧ Hid (Below w6.heap.size w6 w'))
        (first | exact ⟨a0, a1, b0, b1, c0, c1, Below.refl _ _⟩ | exact ⟨a0, a1, b0, b1, c0, c1, (Below.refl _ _).drew⟩ | exact keep3 (by assumption) (by assumption))
        (first | (go_at_call 29; refine (compare_all _ _ _ _ _).mono ?_; rintro e w' ⟨he, hb⟩; (first | rw [E1.out] at he | rw [E2.out] at he | rw [E3.out] at he); subst he))
      go_wp2_with fail
      go_meet
      rename_i hh
      exact ⟨rfl, rfl, rfl, hh.2.2.2.2.2.2⟩
    case rest =>
      obtain ⟨w7, rfl⟩ : ∃ u : World, u = wc := ⟨_, rfl⟩
      obtain ⟨rfl, rfl, rfl, HC7⟩ := hcut
      have QA := Lib.hid (PA.out.below HC7.out)
      have QB := Lib.hid (PB.out.below HC7.out)
      have QC := Lib.hid (PC.out.below HC7.out)
      have HB7 := Lib.hid (HB6.out.trans (HC7.out.mono HB6.out.size))
      clear PA PB PC
      have PA := QA
      have PB := QB
      have PC := QC
      clear QA QB QC
      have y7 : pc < w7.heap.size := PC.out.lt
      obtain ⟨A_0, A_1, A_2, A_3⟩ := PA.out
      obtain ⟨A_4, A_5, A_6, A_7⟩ := lt5 PA.out.lt
      obtain ⟨B_0, B_1, B_2, B_3⟩ := PB.out
      obtain ⟨B_4, B_5, B_6, B_7⟩ := lt5 PB.out.lt
      obtain ⟨C_0, C_1, C_2, C_3⟩ := PC.out
      obtain ⟨C_4, C_5, C_6, C_7⟩ := lt5 PC.out.lt
      go_wp2_with fail
      refine (add_yes x dA C dC KA.out KC.out _).mono ?_
      rintro e w8 ⟨he, hb⟩
      rw [N1.out] at he
      subst he
      have QA := Lib.hid (Box.below PA.out hb)
      have QB := Lib.hid (Box.below PB.out hb)
      have QC := Lib.hid (Box.below PC.out hb)
      have HB8 : Hid (Below W.heap.size W w8) := Lib.hid (Below.trans HB7.out (hb.mono (Below.size HB7.out)))
      clear A_0 A_1 A_2 A_3 A_4 A_5 A_6 A_7 B_0 B_1 B_2 B_3 B_4 B_5 B_6 B_7 C_0 C_1 C_2 C_3 C_4 C_5 C_6 C_7 hb
      clear PA PB PC
      have PA := QA
      clear QA
      have PB := QB
      clear QB
      have PC := QC
      clear QC
      obtain ⟨A_0, A_1, A_2, A_3⟩ := PA.out
      obtain ⟨A_4, A_5, A_6, A_7⟩ := lt5 PA.out.lt
      obtain ⟨B_0, B_1, B_2, B_3⟩ := PB.out
      obtain ⟨B_4, B_5, B_6, B_7⟩ := lt5 PB.out.lt
      obtain ⟨C_0, C_1, C_2, C_3⟩ := PC.out
      obtain ⟨C_4, C_5, C_6, C_7⟩ := lt5 PC.out.lt
      go_wp2_with fail
      refine (add_yes B dB C dC KB.out KC.out _).mono ?_
      rintro e w9 ⟨he, hb⟩
      rw [N2.out] at he
      subst he
      have QA := Lib.hid (Box.below (Box.alloc PA.out _) hb)
      have QB := Lib.hid (Box.below (Box.alloc PB.out _) hb)
      have QC := Lib.hid (Box.below (Box.alloc PC.out _) hb)
      have QP := Lib.hid (Box.below (Box.new _ _ _ _) hb)
      have HB9 : Hid (Below W.heap.size W w9) := Lib.hid (Below.trans (Below.alloc HB8.out (by have := HB8.out.size; simp; try omega) _) (hb.mono (Below.size (Below.alloc HB8.out (by have := HB8.out.size; simp; try omega) _))))
      clear A_0 A_1 A_2 A_3 A_4 A_5 A_6 A_7 B_0 B_1 B_2 B_3 B_4 B_5 B_6 B_7 C_0 C_1 C_2 C_3 C_4 C_5 C_6 C_7 hb
      clear PA PB PC
      have PA := QA
      clear QA
      have PB := QB
      clear QB
      have PC := QC
      clear QC
      have PP := QP
      clear QP
      have y9 : w8.heap.size < w9.heap.size := PP.out.lt
      obtain ⟨A_0, A_1, A_2, A_3⟩ := PA.out
      obtain ⟨A_4, A_5, A_6, A_7⟩ := lt5 PA.out.lt
      obtain ⟨B_0, B_1, B_2, B_3⟩ := PB.out
      obtain ⟨B_4, B_5, B_6, B_7⟩ := lt5 PB.out.lt
      obtain ⟨C_0, C_1, C_2, C_3⟩ := PC.out
      obtain ⟨C_4, C_5, C_6, C_7⟩ := lt5 PC.out.lt
      obtain ⟨P_0, P_1, P_2, P_3⟩ := PP.out
      obtain ⟨P_4, P_5, P_6, P_7⟩ := lt5 PP.out.lt
      go_wp2_with fail
      refine (compare_all B dB x dA _).mono ?_
      rintro e w10 ⟨he, hb⟩
      rw [E4.out] at he
      subst he
      have QA := Lib.hid (Box.below (Box.alloc PA.out _) hb)
      have QB := Lib.hid (Box.below (Box.alloc PB.out _) hb)
      have QC := Lib.hid (Box.below (Box.alloc PC.out _) hb)
      have QP := Lib.hid (Box.below (Box.alloc PP.out _) hb)
      have QQ := Lib.hid (Box.below (Box.new _ _ _ _) hb)
      have HB10 : Hid (Below W.heap.size W w10) := Lib.hid (Below.trans (Below.alloc HB9.out (by have := HB9.out.size; simp; try omega) _) (hb.mono (Below.size (Below.alloc HB9.out (by have := HB9.out.size; simp; try omega) _))))
      clear A_0 A_1 A_2 A_3 A_4 A_5 A_6 A_7 B_0 B_1 B_2 B_3 B_4 B_5 B_6 B_7 C_0 C_1 C_2 C_3 C_4 C_5 C_6 C_7 P_0 P_1 P_2 P_3 P_4 P_5 P_6 P_7 hb
      clear PA PB PC PP
      have PA := QA
      clear QA
      have PB := QB
      clear QB
      have PC := QC
      clear QC
      have PP := QP
      clear QP
      have PQ := QQ
      clear QQ
      have hxv : (X1 == -V1) = true := by simpa using T2.out
      by_cases hz : X1 = 0
      · have t1 : (X1 == 0) = true := by simpa using hz
        have t2 := T3.out.1 hz
        have t3 : (x == B) = true := by simpa using t2.1
        have t4 : (dA == dB) = true := by simpa using t2.2
        have t5 : ¬ 0 < X1 := by omega
        have D := T4.out
        clear hz t2
        by_cases hy : 0 < Y1
        · clear D
          obtain ⟨A_0, A_1, A_2, A_3⟩ := PA.out
          obtain ⟨A_4, A_5, A_6, A_7⟩ := lt5 PA.out.lt
          obtain ⟨B_0, B_1, B_2, B_3⟩ := PB.out
          obtain ⟨B_4, B_5, B_6, B_7⟩ := lt5 PB.out.lt
          obtain ⟨C_0, C_1, C_2, C_3⟩ := PC.out
          obtain ⟨C_4, C_5, C_6, C_7⟩ := lt5 PC.out.lt
          obtain ⟨P_0, P_1, P_2, P_3⟩ := PP.out
          obtain ⟨P_4, P_5, P_6, P_7⟩ := lt5 PP.out.lt
          obtain ⟨Q_0, Q_1, Q_2, Q_3⟩ := PQ.out
          obtain ⟨Q_4, Q_5, Q_6, Q_7⟩ := lt5 PQ.out.lt
          go_wp2_with fail
          refine (compare_all pn pd qn qd _).mono ?_
          rintro e w11 ⟨he, hb⟩
          rw [K1.out, E1.out] at he
          subst he
          have QA := Lib.hid (Box.below PA.out hb)
          have QB := Lib.hid (Box.below PB.out hb)
          have QC := Lib.hid (Box.below PC.out hb)
          have QP := Lib.hid (Box.below PP.out hb)
          have QQ := Lib.hid (Box.below PQ.out hb)
          have HB11 : Hid (Below W.heap.size W w11) := Lib.hid (Below.trans HB10.out (hb.mono (Below.size HB10.out)))
          clear A_0 A_1 A_2 A_3 A_4 A_5 A_6 A_7 B_0 B_1 B_2 B_3 B_4 B_5 B_6 B_7 C_0 C_1 C_2 C_3 C_4 C_5 C_6 C_7 P_0 P_1 P_2 P_3 P_4 P_5 P_6 P_7 Q_0 Q_1 Q_2 Q_3 Q_4 Q_5 Q_6 Q_7 hb
          clear PA PB PC PP PQ
          have PA := QA
          clear QA
          have PB := QB
          clear QB
          have PC := QC
          clear QC
          have PP := QP
          clear QP
          have PQ := QQ
          clear QQ
          obtain ⟨A_0, A_1, A_2, A_3⟩ := PA.out
          obtain ⟨A_4, A_5, A_6, A_7⟩ := lt5 PA.out.lt
          obtain ⟨B_0, B_1, B_2, B_3⟩ := PB.out
          obtain ⟨B_4, B_5, B_6, B_7⟩ := lt5 PB.out.lt
          obtain ⟨C_0, C_1, C_2, C_3⟩ := PC.out
          obtain ⟨C_4, C_5, C_6, C_7⟩ := lt5 PC.out.lt
          obtain ⟨P_0, P_1, P_2, P_3⟩ := PP.out
          obtain ⟨P_4, P_5, P_6, P_7⟩ := lt5 PP.out.lt
          obtain ⟨Q_0, Q_1, Q_2, Q_3⟩ := PQ.out
          obtain ⟨Q_4, Q_5, Q_6, Q_7⟩ := lt5 PQ.out.lt
          go_wp2_with fail
          refine (awake_all _ (H0.out.below HB11.out)).mono ?_
          rintro e w12 ⟨rfl, hb⟩
          go_wp2_with fail
          go_ret
          exact ⟨rfl, Below.trans HB11.out (hb.mono (Below.size HB11.out))⟩
        · have hz1 : Z1 ≤ 0 := by omega
          clear D
          obtain ⟨A_0, A_1, A_2, A_3⟩ := PA.out
          obtain ⟨A_4, A_5, A_6, A_7⟩ := lt5 PA.out.lt
          obtain ⟨B_0, B_1, B_2, B_3⟩ := PB.out
          obtain ⟨B_4, B_5, B_6, B_7⟩ := lt5 PB.out.lt
          obtain ⟨C_0, C_1, C_2, C_3⟩ := PC.out
          obtain ⟨C_4, C_5, C_6, C_7⟩ := lt5 PC.out.lt
          obtain ⟨P_0, P_1, P_2, P_3⟩ := PP.out
          obtain ⟨P_4, P_5, P_6, P_7⟩ := lt5 PP.out.lt
          obtain ⟨Q_0, Q_1, Q_2, Q_3⟩ := PQ.out
          obtain ⟨Q_4, Q_5, Q_6, Q_7⟩ := lt5 PQ.out.lt
          go_wp2_with fail
          refine (compare_all pn pd qn qd _).mono ?_
          rintro e w11 ⟨he, hb⟩
          rw [K1.out, E1.out] at he
          subst he
          have QA := Lib.hid (Box.below PA.out hb)
          have QB := Lib.hid (Box.below PB.out hb)
          have QC := Lib.hid (Box.below PC.out hb)
          have QP := Lib.hid (Box.below PP.out hb)
          have QQ := Lib.hid (Box.below PQ.out hb)
          have HB11 : Hid (Below W.heap.size W w11) := Lib.hid (Below.trans HB10.out (hb.mono (Below.size HB10.out)))
          clear A_0 A_1 A_2 A_3 A_4 A_5 A_6 A_7 B_0 B_1 B_2 B_3 B_4 B_5 B_6 B_7 C_0 C_1 C_2 C_3 C_4 C_5 C_6 C_7 P_0 P_1 P_2 P_3 P_4 P_5 P_6 P_7 Q_0 Q_1 Q_2 Q_3 Q_4 Q_5 Q_6 Q_7 hb
          clear PA PB PC PP PQ
          have PA := QA
          clear QA
          have PB := QB
          clear QB
          have PC := QC
          clear QC
          have PP := QP
          clear QP
          have PQ := QQ
          clear QQ
          obtain ⟨A_0, A_1, A_2, A_3⟩ := PA.out
          obtain ⟨A_4, A_5, A_6, A_7⟩ := lt5 PA.out.lt
          obtain ⟨B_0, B_1, B_2, B_3⟩ := PB.out
          obtain ⟨B_4, B_5, B_6, B_7⟩ := lt5 PB.out.lt
          obtain ⟨C_0, C_1, C_2, C_3⟩ := PC.out
          obtain ⟨C_4, C_5, C_6, C_7⟩ := lt5 PC.out.lt
          obtain ⟨P_0, P_1, P_2, P_3⟩ := PP.out
          obtain ⟨P_4, P_5, P_6, P_7⟩ := lt5 PP.out.lt
          obtain ⟨Q_0, Q_1, Q_2, Q_3⟩ := PQ.out
          obtain ⟨Q_4, Q_5, Q_6, Q_7⟩ := lt5 PQ.out.lt
          go_wp2_with fail
          refine (awake_all _ (H0.out.below HB11.out)).mono ?_
          rintro e w12 ⟨rfl, hb⟩
          go_wp2_with fail
          go_ret
          exact ⟨rfl, Below.trans HB11.out (hb.mono (Below.size HB11.out))⟩
      · have t1 : (X1 == 0) = false := by simpa using hz
        have D := T4.out
        have F := T3.out
        have G : ¬ (x = B ∧ dA = dB) := fun h => hz (F.2 h)
        clear hz F
        by_cases hx0 : 0 < X1
        · clear D
          by_cases hq : x = B
          · have t3 : (x == B) = true := by simpa using hq
            have t4 : (dA == dB) = false := by simpa using fun h => G ⟨hq, h⟩
            clear G hq
            obtain ⟨A_0, A_1, A_2, A_3⟩ := PA.out
            obtain ⟨A_4, A_5, A_6, A_7⟩ := lt5 PA.out.lt
            obtain ⟨B_0, B_1, B_2, B_3⟩ := PB.out
            obtain ⟨B_4, B_5, B_6, B_7⟩ := lt5 PB.out.lt
            obtain ⟨C_0, C_1, C_2, C_3⟩ := PC.out
            obtain ⟨C_4, C_5, C_6, C_7⟩ := lt5 PC.out.lt
            obtain ⟨P_0, P_1, P_2, P_3⟩ := PP.out
            obtain ⟨P_4, P_5, P_6, P_7⟩ := lt5 PP.out.lt
            obtain ⟨Q_0, Q_1, Q_2, Q_3⟩ := PQ.out
            obtain ⟨Q_4, Q_5, Q_6, Q_7⟩ := lt5 PQ.out.lt
            go_wp2_with fail
            refine (compare_all pn pd qn qd _).mono ?_
            rintro e w11 ⟨he, hb⟩
            rw [K1.out, E1.out] at he
            subst he
            have QA := Lib.hid (Box.below PA.out hb)
            have QB := Lib.hid (Box.below PB.out hb)
            have QC := Lib.hid (Box.below PC.out hb)
            have QP := Lib.hid (Box.below PP.out hb)
            have QQ := Lib.hid (Box.below PQ.out hb)
            have HB11 : Hid (Below W.heap.size W w11) := Lib.hid (Below.trans HB10.out (hb.mono (Below.size HB10.out)))
            clear A_0 A_1 A_2 A_3 A_4 A_5 A_6 A_7 B_0 B_1 B_2 B_3 B_4 B_5 B_6 B_7 C_0 C_1 C_2 C_3 C_4 C_5 C_6 C_7 P_0 P_1 P_2 P_3 P_4 P_5 P_6 P_7 Q_0 Q_1 Q_2 Q_3 Q_4 Q_5 Q_6 Q_7 hb
            clear PA PB PC PP PQ
            have PA := QA
            clear QA
            have PB := QB
            clear QB
            have PC := QC
            clear QC
            have PP := QP
            clear QP
            have PQ := QQ
            clear QQ
            obtain ⟨A_0, A_1, A_2, A_3⟩ := PA.out
            obtain ⟨A_4, A_5, A_6, A_7⟩ := lt5 PA.out.lt
            obtain ⟨B_0, B_1, B_2, B_3⟩ := PB.out
            obtain ⟨B_4, B_5, B_6, B_7⟩ := lt5 PB.out.lt
            obtain ⟨C_0, C_1, C_2, C_3⟩ := PC.out
            obtain ⟨C_4, C_5, C_6, C_7⟩ := lt5 PC.out.lt
            obtain ⟨P_0, P_1, P_2, P_3⟩ := PP.out
            obtain ⟨P_4, P_5, P_6, P_7⟩ := lt5 PP.out.lt
            obtain ⟨Q_0, Q_1, Q_2, Q_3⟩ := PQ.out
            obtain ⟨Q_4, Q_5, Q_6, Q_7⟩ := lt5 PQ.out.lt
            go_wp2_with fail
            refine (awake_all _ (H0.out.below HB11.out)).mono ?_
            rintro e w12 ⟨rfl, hb⟩
            go_wp2_with fail
            go_ret
            exact ⟨rfl, Below.trans HB11.out (hb.mono (Below.size HB11.out))⟩
          · have t3 : (x == B) = false := by simpa using hq
            clear G hq
            obtain ⟨A_0, A_1, A_2, A_3⟩ := PA.out
            obtain ⟨A_4, A_5, A_6, A_7⟩ := lt5 PA.out.lt
            obtain ⟨B_0, B_1, B_2, B_3⟩ := PB.out
            obtain ⟨B_4, B_5, B_6, B_7⟩ := lt5 PB.out.lt
            obtain ⟨C_0, C_1, C_2, C_3⟩ := PC.out
            obtain ⟨C_4, C_5, C_6, C_7⟩ := lt5 PC.out.lt
            obtain ⟨P_0, P_1, P_2, P_3⟩ := PP.out
            obtain ⟨P_4, P_5, P_6, P_7⟩ := lt5 PP.out.lt
            obtain ⟨Q_0, Q_1, Q_2, Q_3⟩ := PQ.out
            obtain ⟨Q_4, Q_5, Q_6, Q_7⟩ := lt5 PQ.out.lt
            go_wp2_with fail
            refine (compare_all pn pd qn qd _).mono ?_
            rintro e w11 ⟨he, hb⟩
            rw [K1.out, E1.out] at he
            subst he
            have QA := Lib.hid (Box.below PA.out hb)
            have QB := Lib.hid (Box.below PB.out hb)
            have QC := Lib.hid (Box.below PC.out hb)
            have QP := Lib.hid (Box.below PP.out hb)
            have QQ := Lib.hid (Box.below PQ.out hb)
            have HB11 : Hid (Below W.heap.size W w11) := Lib.hid (Below.trans HB10.out (hb.mono (Below.size HB10.out)))
            clear A_0 A_1 A_2 A_3 A_4 A_5 A_6 A_7 B_0 B_1 B_2 B_3 B_4 B_5 B_6 B_7 C_0 C_1 C_2 C_3 C_4 C_5 C_6 C_7 P_0 P_1 P_2 P_3 P_4 P_5 P_6 P_7 Q_0 Q_1 Q_2 Q_3 Q_4 Q_5 Q_6 Q_7 hb
            clear PA PB PC PP PQ
            have PA := QA
            clear QA
            have PB := QB
            clear QB
            have PC := QC
            clear QC
            have PP := QP
            clear QP
            have PQ := QQ
            clear QQ
            obtain ⟨A_0, A_1, A_2, A_3⟩ := PA.out
            obtain ⟨A_4, A_5, A_6, A_7⟩ := lt5 PA.out.lt
            obtain ⟨B_0, B_1, B_2, B_3⟩ := PB.out
            obtain ⟨B_4, B_5, B_6, B_7⟩ := lt5 PB.out.lt
            obtain ⟨C_0, C_1, C_2, C_3⟩ := PC.out
            obtain ⟨C_4, C_5, C_6, C_7⟩ := lt5 PC.out.lt
            obtain ⟨P_0, P_1, P_2, P_3⟩ := PP.out
            obtain ⟨P_4, P_5, P_6, P_7⟩ := lt5 PP.out.lt
            obtain ⟨Q_0, Q_1, Q_2, Q_3⟩ := PQ.out
            obtain ⟨Q_4, Q_5, Q_6, Q_7⟩ := lt5 PQ.out.lt
            go_wp2_with fail
            refine (awake_all _ (H0.out.below HB11.out)).mono ?_
            rintro e w12 ⟨rfl, hb⟩
            go_wp2_with fail
            go_ret
            exact ⟨rfl, Below.trans HB11.out (hb.mono (Below.size HB11.out))⟩
        · by_cases hy : 0 < Y1
          · clear D
            by_cases hq : x = B
            · have t3 : (x == B) = true := by simpa using hq
              have t4 : (dA == dB) = false := by simpa using fun h => G ⟨hq, h⟩
              clear G hq
              obtain ⟨A_0, A_1, A_2, A_3⟩ := PA.out
              obtain ⟨A_4, A_5, A_6, A_7⟩ := lt5 PA.out.lt
              obtain ⟨B_0, B_1, B_2, B_3⟩ := PB.out
              obtain ⟨B_4, B_5, B_6, B_7⟩ := lt5 PB.out.lt
              obtain ⟨C_0, C_1, C_2, C_3⟩ := PC.out
              obtain ⟨C_4, C_5, C_6, C_7⟩ := lt5 PC.out.lt
              obtain ⟨P_0, P_1, P_2, P_3⟩ := PP.out
              obtain ⟨P_4, P_5, P_6, P_7⟩ := lt5 PP.out.lt
              obtain ⟨Q_0, Q_1, Q_2, Q_3⟩ := PQ.out
              obtain ⟨Q_4, Q_5, Q_6, Q_7⟩ := lt5 PQ.out.lt
              go_wp2_with fail
              refine (compare_all pn pd qn qd _).mono ?_
              rintro e w11 ⟨he, hb⟩
              rw [K1.out, E1.out] at he
              subst he
              have QA := Lib.hid (Box.below PA.out hb)
              have QB := Lib.hid (Box.below PB.out hb)
              have QC := Lib.hid (Box.below PC.out hb)
              have QP := Lib.hid (Box.below PP.out hb)
              have QQ := Lib.hid (Box.below PQ.out hb)
              have HB11 : Hid (Below W.heap.size W w11) := Lib.hid (Below.trans HB10.out (hb.mono (Below.size HB10.out)))
              clear A_0 A_1 A_2 A_3 A_4 A_5 A_6 A_7 B_0 B_1 B_2 B_3 B_4 B_5 B_6 B_7 C_0 C_1 C_2 C_3 C_4 C_5 C_6 C_7 P_0 P_1 P_2 P_3 P_4 P_5 P_6 P_7 Q_0 Q_1 Q_2 Q_3 Q_4 Q_5 Q_6 Q_7 hb
              clear PA PB PC PP PQ
              have PA := QA
              clear QA
              have PB := QB
              clear QB
              have PC := QC
              clear QC
              have PP := QP
              clear QP
              have PQ := QQ
              clear QQ
              obtain ⟨A_0, A_1, A_2, A_3⟩ := PA.out
              obtain ⟨A_4, A_5, A_6, A_7⟩ := lt5 PA.out.lt
              obtain ⟨B_0, B_1, B_2, B_3⟩ := PB.out
              obtain ⟨B_4, B_5, B_6, B_7⟩ := lt5 PB.out.lt
              obtain ⟨C_0, C_1, C_2, C_3⟩ := PC.out
              obtain ⟨C_4, C_5, C_6, C_7⟩ := lt5 PC.out.lt
              obtain ⟨P_0, P_1, P_2, P_3⟩ := PP.out
              obtain ⟨P_4, P_5, P_6, P_7⟩ := lt5 PP.out.lt
              obtain ⟨Q_0, Q_1, Q_2, Q_3⟩ := PQ.out
              obtain ⟨Q_4, Q_5, Q_6, Q_7⟩ := lt5 PQ.out.lt
              go_wp2_with fail
              refine (awake_all _ (H0.out.below HB11.out)).mono ?_
              rintro e w12 ⟨rfl, hb⟩
              go_wp2_with fail
              go_ret
              exact ⟨rfl, Below.trans HB11.out (hb.mono (Below.size HB11.out))⟩
            · have t3 : (x == B) = false := by simpa using hq
              clear G hq
              obtain ⟨A_0, A_1, A_2, A_3⟩ := PA.out
              obtain ⟨A_4, A_5, A_6, A_7⟩ := lt5 PA.out.lt
              obtain ⟨B_0, B_1, B_2, B_3⟩ := PB.out
              obtain ⟨B_4, B_5, B_6, B_7⟩ := lt5 PB.out.lt
              obtain ⟨C_0, C_1, C_2, C_3⟩ := PC.out
              obtain ⟨C_4, C_5, C_6, C_7⟩ := lt5 PC.out.lt
              obtain ⟨P_0, P_1, P_2, P_3⟩ := PP.out
              obtain ⟨P_4, P_5, P_6, P_7⟩ := lt5 PP.out.lt
              obtain ⟨Q_0, Q_1, Q_2, Q_3⟩ := PQ.out
              obtain ⟨Q_4, Q_5, Q_6, Q_7⟩ := lt5 PQ.out.lt
              go_wp2_with fail
              refine (compare_all pn pd qn qd _).mono ?_
              rintro e w11 ⟨he, hb⟩
              rw [K1.out, E1.out] at he
              subst he
              have QA := Lib.hid (Box.below PA.out hb)
              have QB := Lib.hid (Box.below PB.out hb)
              have QC := Lib.hid (Box.below PC.out hb)
              have QP := Lib.hid (Box.below PP.out hb)
              have QQ := Lib.hid (Box.below PQ.out hb)
              have HB11 : Hid (Below W.heap.size W w11) := Lib.hid (Below.trans HB10.out (hb.mono (Below.size HB10.out)))
              clear A_0 A_1 A_2 A_3 A_4 A_5 A_6 A_7 B_0 B_1 B_2 B_3 B_4 B_5 B_6 B_7 C_0 C_1 C_2 C_3 C_4 C_5 C_6 C_7 P_0 P_1 P_2 P_3 P_4 P_5 P_6 P_7 Q_0 Q_1 Q_2 Q_3 Q_4 Q_5 Q_6 Q_7 hb
              clear PA PB PC PP PQ
              have PA := QA
              clear QA
              have PB := QB
              clear QB
              have PC := QC
              clear QC
              have PP := QP
              clear QP
              have PQ := QQ
              clear QQ
              obtain ⟨A_0, A_1, A_2, A_3⟩ := PA.out
              obtain ⟨A_4, A_5, A_6, A_7⟩ := lt5 PA.out.lt
              obtain ⟨B_0, B_1, B_2, B_3⟩ := PB.out
              obtain ⟨B_4, B_5, B_6, B_7⟩ := lt5 PB.out.lt
              obtain ⟨C_0, C_1, C_2, C_3⟩ := PC.out
              obtain ⟨C_4, C_5, C_6, C_7⟩ := lt5 PC.out.lt
              obtain ⟨P_0, P_1, P_2, P_3⟩ := PP.out
              obtain ⟨P_4, P_5, P_6, P_7⟩ := lt5 PP.out.lt
              obtain ⟨Q_0, Q_1, Q_2, Q_3⟩ := PQ.out
              obtain ⟨Q_4, Q_5, Q_6, Q_7⟩ := lt5 PQ.out.lt
              go_wp2_with fail
              refine (awake_all _ (H0.out.below HB11.out)).mono ?_
              rintro e w12 ⟨rfl, hb⟩
              go_wp2_with fail
              go_ret
              exact ⟨rfl, Below.trans HB11.out (hb.mono (Below.size HB11.out))⟩
          · have hz1 : Z1 ≤ 0 := by omega
            clear D
            by_cases hq : x = B
            · have t3 : (x == B) = true := by simpa using hq
              have t4 : (dA == dB) = false := by simpa using fun h => G ⟨hq, h⟩
              clear G hq
              obtain ⟨A_0, A_1, A_2, A_3⟩ := PA.out
              obtain ⟨A_4, A_5, A_6, A_7⟩ := lt5 PA.out.lt
              obtain ⟨B_0, B_1, B_2, B_3⟩ := PB.out
              obtain ⟨B_4, B_5, B_6, B_7⟩ := lt5 PB.out.lt
              obtain ⟨C_0, C_1, C_2, C_3⟩ := PC.out
              obtain ⟨C_4, C_5, C_6, C_7⟩ := lt5 PC.out.lt
              obtain ⟨P_0, P_1, P_2, P_3⟩ := PP.out
              obtain ⟨P_4, P_5, P_6, P_7⟩ := lt5 PP.out.lt
              obtain ⟨Q_0, Q_1, Q_2, Q_3⟩ := PQ.out
              obtain ⟨Q_4, Q_5, Q_6, Q_7⟩ := lt5 PQ.out.lt
              go_wp2_with fail
              refine (compare_all pn pd qn qd _).mono ?_
              rintro e w11 ⟨he, hb⟩
              rw [K1.out, E1.out] at he
              subst he
              have QA := Lib.hid (Box.below PA.out hb)
              have QB := Lib.hid (Box.below PB.out hb)
              have QC := Lib.hid (Box.below PC.out hb)
              have QP := Lib.hid (Box.below PP.out hb)
              have QQ := Lib.hid (Box.below PQ.out hb)
              have HB11 : Hid (Below W.heap.size W w11) := Lib.hid (Below.trans HB10.out (hb.mono (Below.size HB10.out)))
              clear A_0 A_1 A_2 A_3 A_4 A_5 A_6 A_7 B_0 B_1 B_2 B_3 B_4 B_5 B_6 B_7 C_0 C_1 C_2 C_3 C_4 C_5 C_6 C_7 P_0 P_1 P_2 P_3 P_4 P_5 P_6 P_7 Q_0 Q_1 Q_2 Q_3 Q_4 Q_5 Q_6 Q_7 hb
              clear PA PB PC PP PQ
              have PA := QA
              clear QA
              have PB := QB
              clear QB
              have PC := QC
              clear QC
              have PP := QP
              clear QP
              have PQ := QQ
              clear QQ
              obtain ⟨A_0, A_1, A_2, A_3⟩ := PA.out
              obtain ⟨A_4, A_5, A_6, A_7⟩ := lt5 PA.out.lt
              obtain ⟨B_0, B_1, B_2, B_3⟩ := PB.out
              obtain ⟨B_4, B_5, B_6, B_7⟩ := lt5 PB.out.lt
              obtain ⟨C_0, C_1, C_2, C_3⟩ := PC.out
              obtain ⟨C_4, C_5, C_6, C_7⟩ := lt5 PC.out.lt
              obtain ⟨P_0, P_1, P_2, P_3⟩ := PP.out
              obtain ⟨P_4, P_5, P_6, P_7⟩ := lt5 PP.out.lt
              obtain ⟨Q_0, Q_1, Q_2, Q_3⟩ := PQ.out
              obtain ⟨Q_4, Q_5, Q_6, Q_7⟩ := lt5 PQ.out.lt
              go_wp2_with fail
              refine (awake_all _ (H0.out.below HB11.out)).mono ?_
              rintro e w12 ⟨rfl, hb⟩
              go_wp2_with fail
              go_ret
              exact ⟨rfl, Below.trans HB11.out (hb.mono (Below.size HB11.out))⟩
            · have t3 : (x == B) = false := by simpa using hq
              clear G hq
              obtain ⟨A_0, A_1, A_2, A_3⟩ := PA.out
              obtain ⟨A_4, A_5, A_6, A_7⟩ := lt5 PA.out.lt
              obtain ⟨B_0, B_1, B_2, B_3⟩ := PB.out
              obtain ⟨B_4, B_5, B_6, B_7⟩ := lt5 PB.out.lt
              obtain ⟨C_0, C_1, C_2, C_3⟩ := PC.out
              obtain ⟨C_4, C_5, C_6, C_7⟩ := lt5 PC.out.lt
              obtain ⟨P_0, P_1, P_2, P_3⟩ := PP.out
              obtain ⟨P_4, P_5, P_6, P_7⟩ := lt5 PP.out.lt
              obtain ⟨Q_0, Q_1, Q_2, Q_3⟩ := PQ.out
              obtain ⟨Q_4, Q_5, Q_6, Q_7⟩ := lt5 PQ.out.lt
              go_wp2_with fail
              refine (compare_all pn pd qn qd _).mono ?_
              rintro e w11 ⟨he, hb⟩
              rw [K1.out, E1.out] at he
              subst he
              have QA := Lib.hid (Box.below PA.out hb)
              have QB := Lib.hid (Box.below PB.out hb)
              have QC := Lib.hid (Box.below PC.out hb)
              have QP := Lib.hid (Box.below PP.out hb)
              have QQ := Lib.hid (Box.below PQ.out hb)
              have HB11 : Hid (Below W.heap.size W w11) := Lib.hid (Below.trans HB10.out (hb.mono (Below.size HB10.out)))
              clear A_0 A_1 A_2 A_3 A_4 A_5 A_6 A_7 B_0 B_1 B_2 B_3 B_4 B_5 B_6 B_7 C_0 C_1 C_2 C_3 C_4 C_5 C_6 C_7 P_0 P_1 P_2 P_3 P_4 P_5 P_6 P_7 Q_0 Q_1 Q_2 Q_3 Q_4 Q_5 Q_6 Q_7 hb
              clear PA PB PC PP PQ
              have PA := QA
              clear QA
              have PB := QB
              clear QB
              have PC := QC
              clear QC
              have PP := QP
              clear QP
              have PQ := QQ
              clear QQ
              obtain ⟨A_0, A_1, A_2, A_3⟩ := PA.out
              obtain ⟨A_4, A_5, A_6, A_7⟩ := lt5 PA.out.lt
              obtain ⟨B_0, B_1, B_2, B_3⟩ := PB.out
              obtain ⟨B_4, B_5, B_6, B_7⟩ := lt5 PB.out.lt
              obtain ⟨C_0, C_1, C_2, C_3⟩ := PC.out
              obtain ⟨C_4, C_5, C_6, C_7⟩ := lt5 PC.out.lt
              obtain ⟨P_0, P_1, P_2, P_3⟩ := PP.out
              obtain ⟨P_4, P_5, P_6, P_7⟩ := lt5 PP.out.lt
              obtain ⟨Q_0, Q_1, Q_2, Q_3⟩ := PQ.out
              obtain ⟨Q_4, Q_5, Q_6, Q_7⟩ := lt5 PQ.out.lt
              go_wp2_with fail
              refine (awake_all _ (H0.out.below HB11.out)).mono ?_
              rintro e w12 ⟨rfl, hb⟩
              go_wp2_with fail
              go_ret
              exact ⟨rfl, Below.trans HB11.out (hb.mono (Below.size HB11.out))⟩

end Go.Proofs.YtkdpglpdcjhhkaaDoor
