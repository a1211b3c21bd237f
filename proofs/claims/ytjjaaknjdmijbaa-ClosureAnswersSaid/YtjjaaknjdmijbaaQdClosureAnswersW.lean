/- The walk of ClosureAnswers. By the verifier's side. -/
import Derived.Test.YtjjaaknjdmijbaaQdRCl9RCl6CloU
import Derived.Test.YtjjaaknjdmijbaaQdCurveAnswersWCloV
import Derived.Test.YtjjaaknjdmijbaaQdCloTCloXCloG
import Derived.Test.YtjjaaknjdmijbaaQdZero
namespace Go.Proofs.Ytjjaaknjdmijbaa
open Go.RowKit
set_option linter.unusedSimpArgs false
set_option linter.unusedVariables false

/-- Two boxes' cells, and the reader. -/
abbrev S2r (w6 : World) (b : Nat) (ra : Option Addr) (rn rc : Nat) (F1 : Nat) (x0 x1 x2 : Value) (F2 : Nat) (y0 y1 y2 : Value) (u : World) : Prop :=
  u.cell? ⟨F1, 0, none⟩ = some x0 ∧ u.cell? ⟨F1, 1, none⟩ = some x1 ∧ u.cell? ⟨F1, 2, none⟩ = some x2 ∧ u.cell? ⟨F2, 0, none⟩ = some y0 ∧ u.cell? ⟨F2, 1, none⟩ = some y1 ∧ u.cell? ⟨F2, 2, none⟩ = some y2 ∧ Hid (Held w6 b ra rn rc u)
section
variable {w6 u : World} {b : Nat} {ra : Option Addr} {rn rc : Nat} {F1 : Nat} {x0 x1 x2 : Value} {F2 : Nat} {y0 y1 y2 : Value}
theorem s2r_mk (h1 : Cur3 w6 F1 x0 x1 x2) (h2 : Cur3 w6 F2 y0 y1 y2) (k1 : ¬ F1 = b) (k2 : ¬ F2 = b) (h : Held w6 b ra rn rc u) : S2r w6 b ra rn rc F1 x0 x1 x2 F2 y0 y1 y2 u := by
  have a1 := h1.apart h.ap k1
  have a2 := h2.apart h.ap k2
  exact ⟨a1.c0, a1.c1, a1.c2, a2.c0, a2.c1, a2.c2, h⟩
theorem s2r_of (h : S2r w6 b ra rn rc F1 x0 x1 x2 F2 y0 y1 y2 u) : Held w6 b ra rn rc u := h.2.2.2.2.2.2.out
end
section
variable {w : World} {b : Nat} {a1 a2 a3 a4 : Option Addr} {n1 n2 n3 n4 c1 c2 c3 c4 : Nat} {z1 z2 z3 z4 : List Int} {p1 p2 p3 p4 i1 i2 i3 i4 : Int} {t : TypeId}
theorem curs4 (h1 : CurIn w b a1 n1 c1 z1 p1 i1) (h2 : CurIn w b a2 n2 c2 z2 p2 i2) (h3 : CurIn w b a3 n3 c3 z3 p3 i3) (h4 : CurIn w b a4 n4 c4 z4 p4 i4) :
    Curs (w.alloc (.cells #[.slice a1 n1 c1, .int .i64 p1, .int .i64 i1, .slice a2 n2 c2, .int .i64 p2, .int .i64 i2, .slice a3 n3 c3, .int .i64 p3, .int .i64 i3, .slice a4 n4 c4, .int .i64 p4, .int .i64 i4] t)) b w.heap.size 4 := fun k hk => by
  have hb := fun o => (Below.refl w.heap.size w).alloc (Nat.le_refl _) o
  have hk5 : k = 0 ∨ k = 1 ∨ k = 2 ∨ k = 3 := by omega
  rcases hk5 with rfl | rfl | rfl | rfl
  · exact ⟨_, _, _, _, _, _, h1.below (hb _), cell_new rfl, cell_new rfl, cell_new rfl⟩
  · exact ⟨_, _, _, _, _, _, h2.below (hb _), cell_new rfl, cell_new rfl, cell_new rfl⟩
  · exact ⟨_, _, _, _, _, _, h3.below (hb _), cell_new rfl, cell_new rfl, cell_new rfl⟩
  · exact ⟨_, _, _, _, _, _, h4.below (hb _), cell_new rfl, cell_new rfl, cell_new rfl⟩
end
theorem Curs.below {w u : World} {b B N : Nat} (h : Curs w b B N) (hb : Below w.heap.size w u) : Curs u b B N := fun k hk => by
  obtain ⟨a, n, cap, zs, p, inc, h1, h2, h3, h4⟩ := h k hk
  exact ⟨a, n, cap, zs, p, inc, h1.below hb, (hb.cell (lt_of_cell h2)).trans h2, (hb.cell (lt_of_cell h3)).trans h3, (hb.cell (lt_of_cell h4)).trans h4⟩
theorem sm_bd9 {zs : List Int} {p : Nat} {inc : Int} (h : Good zs p inc) : ∀ i, i < zs.length → -4611686018427387905 ≤ zs.getD i 0 ∧ zs.getD i 0 ≤ 4611686018427387905 := fun i hi => by
  rcases h.val i hi with ⟨h1, h2⟩ | h1
  · omega
  · rw [h1, show infV = 4611686018427387904 from rfl]; omega

set_option maxRecDepth 100000 in
set_option maxHeartbeats 6400000 in
theorem closureAnswers_walk (W : World) (aR : Option Addr) (nR cR : Nat) (zR : List Int) (pR iR : Int) (a : Option Addr) (n cap : Nat)
    (hR : nR ≤ 800 → RowZ W aR nR cR zR) (hpR : In64 pR) (hiR : In64 iR) (hrow : RowAt W a n cap) :
    Calls Try.prog 5 #[curV aR nR cR pR iR, .slice a n cap] W fun e w' => e = .returned (.bool true) ∧ Below W.heap.size W w' := by
  have hR0 : ∀ {u : World}, Below W.heap.size W u → RowAt u a n cap := fun hb => RowAt.under hrow hb
  have HIR := Lib.hid (And.intro hpR hiR)
  clear hrow hpR hiR
  go_enter Try.func5, Try.ntmps5
  have hB0 : Below W.heap.size W (W.alloc (.cells #[.slice aR nR cR, .int .i64 pR, .int .i64 iR] 24)) := (Below.refl _ _).alloc (Nat.le_refl _) _
  have HB0 := Lib.hid hB0
  have HR0 := Lib.hid (hR0 hB0)
  have K4 := Lib.hid (Cur3.new W (.slice aR nR cR) (.int .i64 pR) (.int .i64 iR) 24)
  have HSZ := Lib.hid (show (W.alloc (.cells #[.slice aR nR cR, .int .i64 pR, .int .i64 iR] 24)).heap.size = W.heap.size + 1 by simp)
  have RR0 := Lib.hid (fun hh => (hR hh).under hB0)
  clear hB0 hR0 hR
  go_upto_region 1 with fail
  generalize W.alloc (.cells #[.slice aR nR cR, .int .i64 pR, .int .i64 iR] 24) = w0 at HB0 HR0 K4 HSZ RR0 ⊢
  obtain ⟨w1, hw1⟩ : ∃ u, w0.alloc (.cells #[.slice aR nR cR, .int .i64 pR, .int .i64 iR] 24) = u := ⟨_, rfl⟩
  have hb1 : Below w0.heap.size w0 w1 := by rw [← hw1]; exact (Below.refl _ _).alloc (Nat.le_refl _) _
  have HCL := Lib.hid (show ∀ k, k < 1 → Cl9 w1 w0.heap.size k (fun _ => nR ≤ 800) by
    intro k hk
    have q := Cur3.new w0 (.slice aR nR cR) (.int .i64 pR) (.int .i64 iR) 24
    rw [hw1] at q
    obtain rfl : k = 0 := by omega
    exact ⟨aR, nR, cR, zR, pR, iR, q.c0, q.c1, q.c2, fun hh => (RR0.out hh).under hb1, HIR.out.1, HIR.out.2, fun hh => hh⟩)
  have HB1 := Lib.hid (HB0.out.trans (hb1.mono HB0.out.size))
  have HW1 := Lib.hid hb1
  have HX1 := Lib.hid hw1
  clear hw1 hb1
  obtain ⟨c0, c1, c2, f0, f1, f2⟩ := K4.out
  go_wp2_with fail
  try rw [HX1.out]
  clear c0 c1 c2 f0 f1 f2
  refine (short9 w0.heap.size _ _ HCL.out).mono ?_
  rintro e w2 ⟨b1, rfl, hw2, hS⟩
  have HB2 := Lib.hid (HB1.out.trans (hw2.mono HB1.out.size))
  have HW2 := Lib.hid (HW1.out.trans (hw2.mono HW1.out.size))
  have HSS := Lib.hid hS
  clear hw2 hS HX1 HCL
  cases b1 with
  | false =>
    go_wp2_with fail
    refine (awake9 _).mono ?_
    rintro e w3 ⟨rfl, hw3⟩
    have HB3 := Lib.hid (HB2.out.trans (hw3.mono HB2.out.size))
    clear hw3
    go_wp2_with fail
    go_ret
    exact ⟨rfl, HB3.out⟩
  | true =>
    have HNN := Lib.hid (show nR ≤ 800 from HSS.out rfl)
    go_wp2_with fail
    refine (new_any a n cap _ (HR0.out.under HW2.out)).mono ?_
    rintro e w3 ⟨rfl, hb3, hz3, ra, rn, rc, hs3⟩
    have HB3 := Lib.hid (HB2.out.trans (hb3.mono HB2.out.size))
    have HW3 := Lib.hid (HW2.out.trans (hb3.mono HW2.out.size))
    have HS3 := Lib.hid hs3
    have hbW : W.heap.size ≤ w2.heap.size := HB2.out.size
    have hb0 : w0.heap.size ≤ w2.heap.size := HW2.out.size
    have HZ0 := Lib.hid (And.intro hbW hb0)
    have CR := Lib.hid (show CurIn w3 w2.heap.size aR nR cR zR pR iR from (CurIn.old (RR0.out HNN.out) HIR.out.1 HIR.out.2 hb0).below HW3.out)
    have K4' := Lib.hid (K4.out.below HW3.out)
    have h4b : ¬ W.heap.size = w2.heap.size := by have := HSZ.out; omega
    clear hb3 hz3 hs3 hbW hb0 RR0 K4 HR0 HB2 HB1 HB0 HW1 HW2 HSS HNN
    generalize w2.heap.size = b at *
    go_wp2_with fail
    refine (zero_any 8 (by omega) (by omega) _ ra rn rc _ HS3.out).mono ?_
    rintro e w4 ⟨a1, n1, cap1, zs, p, inc, rfl, hs4, he4, hr4, ok4, _, _, sm4, hx4⟩
    have HS4 := Lib.hid hs4
    have HB4 := Lib.hid (HB3.out.trans (he4.below HZ0.out.1 HB3.out.size))
    have C1 := Lib.hid (show CurIn w4 b a1 n1 cap1 zs p inc from ⟨hr4, by have := ok4.p2; exact ⟨by omega, by omega⟩, by have := ok4.i1; have := ok4.i0; exact ⟨by omega, by omega⟩, fun _ x hx => by have := hx4 x hx; have := HS3.out.lt; omega⟩)
    have OK1 := Lib.hid ok4
    have SM1 := Lib.hid sm4
    have E4 := Lib.hid he4
    clear hs4 he4 hr4 ok4 hx4 sm4
    go_wp2_with fail
    have hba : Below w4.heap.size w4 (w4.alloc (.cells #[.slice a1 n1 cap1, .int .i64 p, .int .i64 inc] 24)) := (Below.refl _ _).alloc (Nat.le_refl _) _
    have C1' := Lib.hid (C1.out.below hba)
    have CR' := Lib.hid ((CR.out.apart E4.out).below hba)
    have HS6 := Lib.hid (HS4.out.under hba)
    have HB6 := Lib.hid (HB4.out.trans (hba.mono HB4.out.size))
    have B4 := Lib.hid ((K4'.out.apart E4.out h4b).alloc (.cells #[.slice a1 n1 cap1, .int .i64 p, .int .i64 inc] 24))
    have B10 := Lib.hid (Cur3.new w4 (.slice a1 n1 cap1) (.int .i64 p) (.int .i64 inc) 24)
    have h10b : ¬ w4.heap.size = b := by have := HS4.out.lt; omega
    clear hba CR C1 K4' HS3 HS4 HW3 E4 HB4 HB3
    generalize w4.alloc (.cells #[.slice a1 n1 cap1, .int .i64 p, .int .i64 inc] 24) = w6 at *
    have HK := Lib.hid (fun u (h : Held w6 b ra rn rc u) => s2r_mk B4.out B10.out h4b h10b h)
    have HK0 := Lib.hid (HK.out _ (Held.start HS6.out).drew)
    have hn1 : 1 ≤ n1 ∧ n1 ≤ 16 := by have := OK1.out.p1; have := OK1.out.p3; have := SM1.out.1; have := C1'.out.row.len; omega
    have P1 := Lib.hid (show (-2000 ≤ (p : Int) ∧ (p : Int) ≤ 2000) ∧ (-4294967296 ≤ inc ∧ inc ≤ 4294967296) from by have := OK1.out.p2; have := OK1.out.i1; have := OK1.out.i0; omega)
    have D1 := Lib.hid (sm_bd9 OK1.out)
    have hbl6 := HS6.out.lt
    go_cut [37, 38, 39] (fun s37 s38 s39 wx => ∃ B, s37 = .slice (some ⟨B, 0, none⟩) 4 4 ∧ s38 = .int .i64 4 ∧ s39 = .int .i64 0 ∧ ¬ B = b ∧ Hid (Curs wx b B 4) ∧ Hid (Held w6 b ra rn rc wx))
    case first =>
      go_region_held3 (fun u => u.cell? ⟨W.heap.size, 0, none⟩ = some (.slice aR nR cR) ∧ u.cell? ⟨W.heap.size, 1, none⟩ = some (.int .i64 pR) ∧ u.cell? ⟨W.heap.size, 2, none⟩ = some (.int .i64 iR) ∧ u.cell? ⟨w4.heap.size, 0, none⟩ = some (.slice a1 n1 cap1) ∧ u.cell? ⟨w4.heap.size, 1, none⟩ = some (.int .i64 p) ∧ u.cell? ⟨w4.heap.size, 2, none⟩ = some (.int .i64 inc) ∧ Hid (Held w6 b ra rn rc u))
        (first | with_reducible exact HK0.out | with_reducible exact HK.out _ ((s2r_of (by assumption)).call hs8 he8) | with_reducible exact HK.out _ ((s2r_of (by assumption)).call hs7 he7) | with_reducible exact HK.out _ ((s2r_of (by assumption)).alloc _) | with_reducible exact HK.out _ ((s2r_of (by assumption)).alloc _).drew | with_reducible exact HK.out _ (s2r_of (by assumption)).drew)
        (first
          | (go_at_call 19; ((with_reducible refine (bent_any 4611686018427387905 (by decide) (by decide) b ra rn rc a1 n1 cap1 zs p inc hn1.1 (by omega) D1.out P1.out.1 P1.out.2 _ ((s2r_of (by assumption)).at HS6.out) (C1'.out.apart (s2r_of (by assumption)).ap).row).mono ?_); rintro e w7 ⟨a7, n7, cap7, z7, p7, i7, rfl, hs7, he7, hr7, hm7, hd7, hp7, hi7, hx7⟩; have HL7 := Lib.hid (s2r_of (by assumption)).lt))
          | (go_at_call 18; ((refine (curve_any 6 (by omega) (by omega) b ra rn rc _ ((s2r_of (by assumption)).at HS6.out)).mono ?_); rintro e w8 ⟨a8, n8, cap8, z8, p8, i8, rfl, hs8, he8, hr8, ok8, hx8⟩; have HL8 := Lib.hid (s2r_of (by assumption)).lt; have HK8 := Lib.hid ((s2r_of (by assumption)).call hs8 he8))))
      go_wp2_with fail
      go_meet
      have hH := HK8.out
      exact ⟨w8.heap.size, rfl, rfl, rfl, by have := hH.lt; omega, curs4 (C1'.out.apart hH.ap) (CR'.out.apart hH.ap) ((bent_in HL7.out hr7 hp7 hi7 hx7).apart he8)
        (show CurIn w8 b a8 n8 cap8 z8 p8 i8 from ⟨hr8, by have := ok8.p8; exact ⟨by omega, by omega⟩, by have := ok8.inc; have := ok8.good.i0; exact ⟨by omega, by omega⟩, fun _ x hx => by have := hx8 x hx; have := HL8.out; omega⟩), hH.alloc _⟩
    case rest =>
      obtain ⟨B, rfl, rfl, rfl, hBb, HC, HH⟩ := hcut
      obtain ⟨w9, rfl⟩ : ∃ u : World, u = wc := ⟨_, rfl⟩
      have HB9 := Lib.hid (HB6.out.trans (HH.out.ap.below HZ0.out.1 HB6.out.size))
      clear HK HK0 B4 B10 CR' C1' HH HB6 HS6 P1 D1 hbl6 h4b h10b hBb hn1 OK1 SM1
      go_wp2_with fail
      go_loopw [39] (fun s39 wx => ∃ k : Nat, s39 = .int .i64 (k : Int) ∧ k ≤ 4 ∧ Hid (Below w9.heap.size w9 wx)) (fun s39 _ => 4 - (intOf s39).toNat)
      case atStart => exact ⟨0, rfl, by omega, Lib.hid (Below.refl _ _)⟩
      case round =>
        obtain ⟨k, rfl, hk5, HL⟩ := hrel
        obtain ⟨wq, rfl⟩ : ∃ u : World, u = wr := ⟨_, rfl⟩
        by_cases hk : k < 4
        · obtain ⟨xa, xn, xc, zx, xp, xi, CX, hc0, hc1, hc2⟩ := (HC.out.below HL.out) k hk
          have q0 : (0 : Int) ≤ (k : Int) := by omega
          have q1 : (k : Int) < 4 := by omega
          obtain ⟨zs9, zp, zi, zf, zc, zt, zb, zd, hU⟩ := clo_u (z := zx) CX.ip CX.ii
          have HU := Lib.hid hU
          have tcc : (zc != zc) = false := by simp
          have tdd : (zd != zd) = false := by simp
          have tbb : (zb != zb) = false := by simp
          obtain ⟨wA, hA⟩ : ∃ u, wq.alloc (.cells #[.slice xa xn xc, .int .i64 xp, .int .i64 xi] 24) = u := ⟨_, rfl⟩
          have hbA : Below wq.heap.size wq wA := by rw [← hA]; exact (Below.refl _ _).alloc (Nat.le_refl _) _
          have C3 := Lib.hid (show Cur3 wA wq.heap.size (.slice xa xn xc) (.int .i64 xp) (.int .i64 xi) by rw [← hA]; exact Cur3.new _ _ _ _ _)
          have X1 := Lib.hid (CX.row.under hbA)
          have L1 := Lib.hid (HL.out.trans (hbA.mono HL.out.size))
          have HA := Lib.hid hA
          have N0 := Lib.hid (Below.refl wA.heap.size wA)
          obtain ⟨F, hF⟩ : ∃ F, wq.heap.size = F := ⟨_, rfl⟩
          rw [hF] at C3
          clear CX hA hbA hU
          go_upto_region 8 with fail
          try rw [HA.out]
          try rw [hF]
          clear hc0 hc1 hc2
          obtain ⟨k0, k1, k2, k3, k4, k5⟩ := C3.out
          go_wp2_with fail
          clear k0 k1 k2 k3 k4 k5
          refine ((HU.out xa xn xc _ (X1.out.under N0.out)).1).mono ?_
          rintro e va0 ⟨r0, m0, s0, rfl, hb, hr, hx⟩
          obtain ⟨wb0, hw⟩ : ∃ u, va0.alloc (.cells #[.slice r0 m0 s0, .int .i64 zp, .int .i64 zi] 24) = u := ⟨_, rfl⟩
          have hz : Below va0.heap.size va0 wb0 := by rw [← hw]; exact (Below.refl _ _).alloc (Nat.le_refl _) _
          have hz2 := hb.trans (hz.mono hb.size)
          have N1 := Lib.hid (N0.out.trans (hz2.mono N0.out.size))
          have V0 := Lib.hid (show Cur3 wb0 va0.heap.size (.slice r0 m0 s0) (.int .i64 zp) (.int .i64 zi) by rw [← hw]; exact Cur3.new _ _ _ _ _)
          have R0 := Lib.hid (hr.under hz)
          have HW0 := Lib.hid hw
          obtain ⟨b0, hb0⟩ : ∃ x, va0.heap.size = x := ⟨_, rfl⟩
          rw [hb0] at V0
          have HE0 := Lib.hid hb0
          obtain ⟨k0, k1, k2, k3, k4, k5⟩ := C3.out.below N1.out
          clear hb hz2 hr hx hz hw hb0
          go_upto_region 9 with fail
          try rw [HW0.out]
          try rw [HE0.out]
          go_wp2_with fail
          clear k0 k1 k2 k3 k4 k5
          refine ((HU.out xa xn xc _ (X1.out.under N1.out)).2.1).mono ?_
          rintro e va1 ⟨r1, m1, s1, rfl, hb, hr, hx⟩
          obtain ⟨wb1, hw⟩ : ∃ u, va1.alloc (.cells #[.slice r1 m1 s1, .int .i64 zp, .int .i64 zi] 24) = u := ⟨_, rfl⟩
          have hz : Below va1.heap.size va1 wb1 := by rw [← hw]; exact (Below.refl _ _).alloc (Nat.le_refl _) _
          have hz2 := hb.trans (hz.mono hb.size)
          have N2 := Lib.hid (N1.out.trans (hz2.mono N1.out.size))
          have V1 := Lib.hid (show Cur3 wb1 va1.heap.size (.slice r1 m1 s1) (.int .i64 zp) (.int .i64 zi) by rw [← hw]; exact Cur3.new _ _ _ _ _)
          have R1 := Lib.hid (hr.under hz)
          have HW1 := Lib.hid hw
          obtain ⟨b1, hb1⟩ : ∃ x, va1.heap.size = x := ⟨_, rfl⟩
          rw [hb1] at V1
          have HE1 := Lib.hid hb1
          have V0 := Lib.hid (V0.out.below hz2)
          have R0 := Lib.hid (R0.out.under hz2)
          obtain ⟨k0, k1, k2, k3, k4, k5⟩ := C3.out.below N2.out
          clear hb hz2 hr hx hz hw hb1
          go_upto_region 10 with fail
          try rw [HW1.out]
          try rw [HE1.out]
          go_wp2_with fail
          clear k0 k1 k2 k3 k4 k5
          refine ((HU.out xa xn xc _ (X1.out.under N2.out)).2.2.1).mono ?_
          rintro e va2 ⟨r2, m2, s2, t2, u2, v2, rfl, hb, hr, ht, hx, hy⟩
          obtain ⟨wb2, hw⟩ : ∃ u, va2.alloc (.cells #[.slice r2 m2 s2, .int .i64 zp, .int .i64 zi, .int .i64 zf, .slice t2 u2 v2] 59) = u := ⟨_, rfl⟩
          have hz : Below va2.heap.size va2 wb2 := by rw [← hw]; exact (Below.refl _ _).alloc (Nat.le_refl _) _
          have hz2 := hb.trans (hz.mono hb.size)
          have N3 := Lib.hid (N2.out.trans (hz2.mono N2.out.size))
          have V2 := Lib.hid (show P5 wb2 va2.heap.size (.slice r2 m2 s2) (.int .i64 zp) (.int .i64 zi) (.int .i64 zf) (.slice t2 u2 v2) by rw [← hw]; exact p5_new _ _ _ _ _ _ _)
          have R2 := Lib.hid (hr.under hz)
          have T2 := Lib.hid (ht.under hz)
          have HW2 := Lib.hid hw
          obtain ⟨b2, hb2⟩ : ∃ x, va2.heap.size = x := ⟨_, rfl⟩
          rw [hb2] at V2
          have HE2 := Lib.hid hb2
          have V0 := Lib.hid (V0.out.below hz2)
          have R0 := Lib.hid (R0.out.under hz2)
          have V1 := Lib.hid (V1.out.below hz2)
          have R1 := Lib.hid (R1.out.under hz2)
          obtain ⟨k0, k1, k2, k3, k4, k5⟩ := C3.out.below N3.out
          clear hb hz2 hr hx hz hw hb2 ht hy
          go_upto_region 11 with fail
          try rw [HW2.out]
          try rw [HE2.out]
          go_wp2_with fail
          clear k0 k1 k2 k3 k4 k5
          refine ((HU.out xa xn xc _ (X1.out.under N3.out)).2.2.2.1).mono ?_
          rintro e va3 ⟨r3, m3, s3, t3, u3, v3, rfl, hb, hr, ht, hx, hy⟩
          obtain ⟨wb3, hw⟩ : ∃ u, va3.alloc (.cells #[.slice r3 m3 s3, .int .i64 zp, .int .i64 zi, .int .i64 zf, .slice t3 u3 v3] 59) = u := ⟨_, rfl⟩
          have hz : Below va3.heap.size va3 wb3 := by rw [← hw]; exact (Below.refl _ _).alloc (Nat.le_refl _) _
          have hz2 := hb.trans (hz.mono hb.size)
          have N4 := Lib.hid (N3.out.trans (hz2.mono N3.out.size))
          have V3 := Lib.hid (show P5 wb3 va3.heap.size (.slice r3 m3 s3) (.int .i64 zp) (.int .i64 zi) (.int .i64 zf) (.slice t3 u3 v3) by rw [← hw]; exact p5_new _ _ _ _ _ _ _)
          have R3 := Lib.hid (hr.under hz)
          have T3 := Lib.hid (ht.under hz)
          have HW3 := Lib.hid hw
          obtain ⟨b3, hb3⟩ : ∃ x, va3.heap.size = x := ⟨_, rfl⟩
          rw [hb3] at V3
          have HE3 := Lib.hid hb3
          have V0 := Lib.hid (V0.out.below hz2)
          have R0 := Lib.hid (R0.out.under hz2)
          have V1 := Lib.hid (V1.out.below hz2)
          have R1 := Lib.hid (R1.out.under hz2)
          have V2 := Lib.hid (V2.out.below hz2)
          have R2 := Lib.hid (R2.out.under hz2)
          have T2 := Lib.hid (T2.out.under hz2)
          obtain ⟨k0, k1, k2, k3, k4, k5⟩ := C3.out.below N4.out
          clear hb hz2 hr hx hz hw hb3 ht hy
          go_upto_region 12 with fail
          try rw [HW3.out]
          try rw [HE3.out]
          go_wp2_with fail
          clear k0 k1 k2 k3 k4 k5
          refine ((HU.out xa xn xc _ (X1.out.under N4.out)).2.2.2.2.1).mono ?_
          rintro e va4 ⟨rfl, hb⟩
          have hz2 := hb
          have N5 := Lib.hid (N4.out.trans (hz2.mono N4.out.size))
          have V0 := Lib.hid (V0.out.below hz2)
          have R0 := Lib.hid (R0.out.under hz2)
          have V1 := Lib.hid (V1.out.below hz2)
          have R1 := Lib.hid (R1.out.under hz2)
          have V2 := Lib.hid (V2.out.below hz2)
          have R2 := Lib.hid (R2.out.under hz2)
          have T2 := Lib.hid (T2.out.under hz2)
          have V3 := Lib.hid (V3.out.below hz2)
          have R3 := Lib.hid (R3.out.under hz2)
          have T3 := Lib.hid (T3.out.under hz2)
          obtain ⟨k0, k1, k2, k3, k4, k5⟩ := C3.out.below N5.out
          clear hb hz2
          go_upto_region 13 with fail
          go_wp2_with fail
          clear k0 k1 k2 k3 k4 k5
          refine ((HU.out xa xn xc _ (X1.out.under N5.out)).2.2.2.2.2).mono ?_
          rintro e va5 ⟨rfl, hb⟩
          have hz2 := hb
          have N6 := Lib.hid (N5.out.trans (hz2.mono N5.out.size))
          have V0 := Lib.hid (V0.out.below hz2)
          have R0 := Lib.hid (R0.out.under hz2)
          have V1 := Lib.hid (V1.out.below hz2)
          have R1 := Lib.hid (R1.out.under hz2)
          have V2 := Lib.hid (V2.out.below hz2)
          have R2 := Lib.hid (R2.out.under hz2)
          have T2 := Lib.hid (T2.out.under hz2)
          have V3 := Lib.hid (V3.out.below hz2)
          have R3 := Lib.hid (R3.out.under hz2)
          have T3 := Lib.hid (T3.out.under hz2)
          obtain ⟨k0, k1, k2, k3, k4, k5⟩ := C3.out.below N6.out
          clear hb hz2
          go_upto_region 14 with fail
          clear k0 k1 k2 k3 k4 k5
          obtain ⟨c0, c1, c2, f0, f1, f2⟩ := V0.out
          obtain ⟨d0, d1, d2, g0, g1, g2⟩ := V1.out
          obtain ⟨⟨e0, e1, e2, h0, h1, h2⟩, e3, e4, h3, h4⟩ := V2.out
          obtain ⟨⟨l0, l1, l2, o0, o1, o2⟩, l3, l4, o3, o4⟩ := V3.out
          go_wp2_with fail
          clear c0 c1 c2 f0 f1 f2 d0 d1 d2 g0 g1 g2 e0 e1 e2 h0 h1 h2 e3 e4 h3 h4 l0 l1 l2 o0 o1 o2 l3 l4 o3 o4
          refine (rsame_any r0 m0 s0 zs9 zp zi r1 m1 s1 zs9 zp zi true (sameB_self _ _ _) _ R0.out R1.out).mono ?_
          rintro e wz ⟨rfl, hb⟩
          have N7 := Lib.hid (N6.out.trans (hb.mono N6.out.size))
          have R2 := Lib.hid (And.intro (R2.out.under hb) (T2.out.under hb))
          have R3 := Lib.hid (And.intro (R3.out.under hb) (T3.out.under hb))
          obtain ⟨⟨e0, e1, e2, h0, h1, h2⟩, e3, e4, h3, h4⟩ := V2.out.below hb
          obtain ⟨⟨l0, l1, l2, o0, o1, o2⟩, l3, l4, o3, o4⟩ := V3.out.below hb
          clear hb
          go_wp2_with fail
          clear e0 e1 e2 h0 h1 h2 e3 e4 h3 h4 l0 l1 l2 o0 o1 o2 l3 l4 o3 o4
          refine (rsame9_self r2 m2 s2 r3 m3 s3 zs9 zp zi zf t2 u2 v2 t3 u3 v3 zt _ R2.out.1 R3.out.1 R2.out.2 R3.out.2).mono ?_
          rintro e wy ⟨rfl, hb⟩
          have N8 := Lib.hid (N7.out.trans (hb.mono N7.out.size))
          clear hb
          go_wp2_with fail
          go_roundw
          case rel => exact ⟨k + 1, by go_num, by omega, Lib.hid (L1.out.trans (N8.out.mono L1.out.size))⟩
          case measure => simp [intOf]; omega
        · obtain rfl : k = 4 := by omega
          go_wp2_with fail
          refine (awake9 _).mono ?_
          rintro e w10 ⟨rfl, hb⟩
          have HB10 := Lib.hid ((HB9.out.trans (HL.out.mono HB9.out.size)).trans (hb.mono (HB9.out.trans (HL.out.mono HB9.out.size)).size))
          clear hb
          go_wp2_with fail
          go_ret
          exact ⟨rfl, HB10.out⟩

end Go.Proofs.Ytjjaaknjdmijbaa
