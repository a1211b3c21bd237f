/- The document's Minimum of two curves whose common period is too great. By the verifier's side. -/
import Derived.Test.YtcpfphlijeajiaaGbConER
import Derived.Test.YtcpfphlijeajiaaGbR5D
import Derived.Test.YtcpfphlijeajiaaGbPwU
namespace Go.Proofs.Ytcpfphlijeajiaa
open Go.RowKit
set_option linter.unusedSimpArgs false
set_option linter.unusedVariables false

set_option maxRecDepth 100000 in
set_option maxHeartbeats 6400000 in
theorem rext_lim (a1 : Option Addr) (n1 cap1 : Nat) (z1 : List Int) (p1 : Nat) (i1 : Int) (g1 : Good z1 p1 i1) (a2 : Option Addr) (n2 cap2 : Nat) (z2 : List Int) (p2 : Nat) (i2 : Int) (g2 : Good z2 p2 i2) (L : Nat) (hL : LcmN z1 p1 i1 z2 p2 i2 L) (hL2 : 120 < L) (bb : Bool) (w : World) (h1 : RowZ w a1 n1 cap1 z1) (h2 : RowZ w a2 n2 cap2 z2) :
    Calls Try.prog 82 #[curV a1 n1 cap1 p1 i1, curV a2 n2 cap2 p2 i2, .bool bb] w (GivesBad 3 w) := by
  have HG := Lib.hid (And.intro g1 g2)
  have HL := Lib.hid (And.intro hL hL2)
  obtain ⟨W, hW⟩ : ∃ W, ((w.alloc (.cells #[.slice a1 n1 cap1, .int .i64 p1, .int .i64 i1] 24)).alloc (.cells #[.slice a2 n2 cap2, .int .i64 p2, .int .i64 i2] 24)).alloc (.cells #[.slice none 0 0, .int .i64 0, .int .i64 0] 24) = W := ⟨_, rfl⟩
  obtain ⟨⟨hB, hWs⟩, k1, k2, kr⟩ := boxesB w a1 n1 cap1 p1 i1 a2 n2 cap2 p2 i2 hW
  have HB := Lib.hid hB
  have KR := Lib.hid kr
  have HR := Lib.hid (And.intro (h1.under hB) (h2.under hB))
  have HWS := Lib.hid hWs
  have hW1 := hW
  obtain ⟨m0, m1, m2, m3, m4, m5⟩ := k1
  obtain ⟨u0, u1, u2, u3, u4, u5⟩ := k2
  clear h1 h2 hB kr hW hWs g1 g2 hL hL2
  go_enter Try.func82, Try.ntmps82
  go_wp2_with fail
  try rw [hW1]
  clear hW1 m0 m1 m2 m3 m4 m5 u0 u1 u2 u3 u4 u5
  refine (rpair_any a1 n1 cap1 z1 p1 i1 HG.out.1 a2 n2 cap2 z2 p2 i2 HG.out.2 L HL.out.1 0 3 (if_pos HL.out.2).symm (if_pos HL.out.2).symm _ HR.out.1 HR.out.2).mono ?_
  rintro e v1 ⟨b1, m1, c1, y1, q1, j1, b2, m2, c2, y2, q2, j2, rfl, hb, hr1, hr2, hn1, hn2, hx1, hx2⟩
  obtain ⟨W2, hw⟩ : ∃ W2, (v1.alloc (.cells #[.slice b1 m1 c1, .int .i64 q1, .int .i64 j1] 24)).alloc (.cells #[.slice b2 m2 c2, .int .i64 q2, .int .i64 j2] 24) = W2 := ⟨_, rfl⟩
  have hWz : Below W.heap.size W W2 := by rw [← hw]; exact (hb.alloc hb.size _).alloc (by have := hb.size; simp; omega) _
  have HP := Lib.hid (GivesBad.post (b := w.heap.size + 2) HB.out (by omega) hWz 3)
  obtain ⟨r0, r1, r2, r3, r4, r5⟩ := KR.out.below hWz
  clear hWz
  clear hb hr1 hr2 hn1 hn2 hx1 hx2
  go_wp2_with fail
  try rw [hw]
  exact bodyPost_ret (v := .tuple #[curV none 0 0 0 0, .int .i64 3]) (by simp [results, Try.results82, go_sem, r0, r1, r2]) rfl HP.out

set_option maxRecDepth 100000 in
set_option maxHeartbeats 6400000 in
theorem rmin_lim (a1 : Option Addr) (n1 cap1 : Nat) (z1 : List Int) (p1 : Nat) (i1 : Int) (g1 : Good z1 p1 i1) (a2 : Option Addr) (n2 cap2 : Nat) (z2 : List Int) (p2 : Nat) (i2 : Int) (g2 : Good z2 p2 i2) (L : Nat) (hL : LcmN z1 p1 i1 z2 p2 i2 L) (hL2 : 120 < L) (w : World) (h1 : RowZ w a1 n1 cap1 z1) (h2 : RowZ w a2 n2 cap2 z2) :
    Calls Try.prog 33 #[curV a1 n1 cap1 p1 i1, curV a2 n2 cap2 p2 i2] w (GivesBad 3 w) := by
  have HX := Lib.hid (show ∀ u, RowZ u a1 n1 cap1 z1 → RowZ u a2 n2 cap2 z2 → Calls Try.prog 82 #[curV a1 n1 cap1 p1 i1, curV a2 n2 cap2 p2 i2, .bool true] u (GivesBad 3 u) from fun u r1 r2 => rext_lim a1 n1 cap1 z1 p1 i1 g1 a2 n2 cap2 z2 p2 i2 g2 L hL hL2 true u r1 r2)
  obtain ⟨W, hW⟩ : ∃ W, ((w.alloc (.cells #[.slice a1 n1 cap1, .int .i64 p1, .int .i64 i1] 24)).alloc (.cells #[.slice a2 n2 cap2, .int .i64 p2, .int .i64 i2] 24)).alloc (.cells #[.slice none 0 0, .int .i64 0, .int .i64 0] 24) = W := ⟨_, rfl⟩
  obtain ⟨⟨hB, hWs⟩, k1, k2, kr⟩ := boxesB w a1 n1 cap1 p1 i1 a2 n2 cap2 p2 i2 hW
  have HB := Lib.hid hB
  have KR := Lib.hid kr
  have HR := Lib.hid (And.intro (h1.under hB) (h2.under hB))
  have HW := Lib.hid hW
  obtain ⟨m0, m1, m2, m3, m4, m5⟩ := k1
  obtain ⟨u0, u1, u2, u3, u4, u5⟩ := k2
  clear h1 h2 hB kr hW hWs g1 g2 hL
  go_enter Try.func33, Try.ntmps33
  go_upto_region 1 with fail
  try rw [HW.out]
  go_wp2_with fail
  clear m0 m1 m2 m3 m4 m5 u0 u1 u2 u3 u4 u5
  refine (HX.out _ HR.out.1 HR.out.2).mono ?_
  rintro e v2 ⟨rfl, hb2⟩
  have HP := Lib.hid (GivesBad.post (b := w.heap.size + 2) HB.out (by omega) hb2 3)
  obtain ⟨d0, d1, d2, e0, e1, e2⟩ := KR.out.below hb2
  clear hb2
  go_wp2_with fail
  exact bodyPost_ret (v := .tuple #[curV none 0 0 0 0, .int .i64 3]) (by simp [results, Try.results33, go_sem, d0, d1, d2]) rfl HP.out

end Go.Proofs.Ytcpfphlijeajiaa

namespace Go.Proofs.Ytcpfphlijeajiaa
open Go.RowKit
set_option linter.unusedSimpArgs false
set_option linter.unusedVariables false

def GivesPBad (c : Int) (w : World) (e : Ending) (w' : World) : Prop := e = .returned (.tuple #[(.agg #[.slice none 0 0, .int .i64 0, .int .i64 0, .slice none 0 0, .int .i64 0, .int .i64 0, .int .i64 0]), .int .i64 c]) ∧ Below w.heap.size w w'

set_option maxRecDepth 100000 in
set_option maxHeartbeats 6400000 in
theorem cpaired_lim (a1 : Option Addr) (n1 cap1 : Nat) (z1 : List Int) (p1 : Nat) (i1 : Int) (g1 : Good z1 p1 i1) (a2 : Option Addr) (n2 cap2 : Nat) (z2 : List Int) (p2 : Nat) (i2 : Int) (g2 : Good z2 p2 i2)
    {y1 y2 : List Int} {q1 q2 : Nat} {j1 j2 : Int} (hn1 : NormC z1 p1 i1 y1 q1 j1) (hn2 : NormC z2 p2 i2 y2 q2 j2) (L : Nat) (hL : q1 / Nat.gcd q1 q2 * q2 = L) (hL2 : 120 < L) (w : World) (h1 : RowZ w a1 n1 cap1 z1) (h2 : RowZ w a2 n2 cap2 z2) :
    Calls Try.prog 87 #[curV a1 n1 cap1 p1 i1, curV a2 n2 cap2 p2 i2] w (GivesPBad 3 w) := by
  obtain ⟨W, hW⟩ : ∃ W, ((w.alloc (.cells #[.slice a1 n1 cap1, .int .i64 p1, .int .i64 i1] 24)).alloc (.cells #[.slice a2 n2 cap2, .int .i64 p2, .int .i64 i2] 24)).alloc (.cells #[.slice none 0 0, .int .i64 0, .int .i64 0, .slice none 0 0, .int .i64 0, .int .i64 0, .int .i64 0] 100) = W := ⟨_, rfl⟩
  obtain ⟨t0, hsz⟩ := sq_start (p1 := p1) (i1 := i1) (p2 := p2) (i2 := i2) h1 h2 hW
  have T0 := Lib.hid t0
  have HSZ := Lib.hid hsz
  have HW := Lib.hid hW
  have V1 := Lib.hid ((okC_iff z1 p1 i1).2 g1)
  have V2 := Lib.hid ((okC_iff z2 p2 i2).2 g2)
  have G1 := Lib.hid g1
  have G2 := Lib.hid g2
  have HN := Lib.hid (And.intro hn1 hn2)
  have HL := Lib.hid hL
  obtain ⟨b1, b2, b3, b4, b5, b6⟩ := norm_p3 g1 hn1
  obtain ⟨d1, d2, d3, d4, d5, d6⟩ := norm_p3 g2 hn2
  have e1 : In64 (p1 : Int) := ⟨by omega, by have := g1.p2; omega⟩
  have e2 : In64 (p2 : Int) := ⟨by omega, by have := g2.p2; omega⟩
  have e3 : In64 i1 := ⟨by have := g1.i0; omega, by have := g1.i1; omega⟩
  have e4 : In64 i2 := ⟨by have := g2.i0; omega, by have := g2.i1; omega⟩
  have HI := Lib.hid (And.intro (And.intro e1 e3) (And.intro e2 e4))
  have hL1 : 1 ≤ L := (lcm_of b1 d1 hL).one
  clear t0 hsz hW g1 g2 hn1 hn2 hL h1 h2 e1 e2 e3 e4
  go_enter Try.func87, Try.ntmps87
  go_wp2_with fail
  try rw [HW.out]
  refine (valid_any a1 n1 cap1 z1 p1 i1 HI.out.1.1 HI.out.1.2 true V1.out _ T0.out.r1).mono ?_
  rintro e w1 ⟨rfl, hb⟩
  have T1 := Lib.hid (T0.out.call hb)
  obtain ⟨c0, c1, c2, f0, f1, f2⟩ := T1.out.c2
  have HS1 := Lib.hid (Nat.le_trans (Nat.le_of_eq HSZ.out.symm) hb.size)
  clear hb
  go_wp2_with fail
  refine (valid_any a2 n2 cap2 z2 p2 i2 HI.out.2.1 HI.out.2.2 true V2.out _ T1.out.r2).mono ?_
  rintro e w2 ⟨rfl, hb⟩
  have T2 := Lib.hid (T1.out.call hb)
  have HS2 := Lib.hid (Nat.le_trans HS1.out hb.size)
  clear hb c0 c1 c2 f0 f1 f2
  obtain ⟨c0, c1, c2, f0, f1, f2⟩ := T2.out.c1
  go_wp2_with fail
  refine (normal_ok a1 n1 cap1 z1 p1 i1 G1.out _ T2.out.r1).mono ?_
  rintro e w3 ⟨a3, n3, cap3, x1, r1, k1, rfl, hb, hr, hn, hx⟩
  obtain ⟨rfl, rfl, rfl⟩ := hn.canon G1.out G1.out HN.out.1 (fun _ => rfl)
  obtain ⟨W3, hW3⟩ : ∃ W3, (((w3.setCell ⟨w.heap.size, 0, none⟩ (.slice a3 n3 cap3)).setCell ⟨w.heap.size, 1, none⟩ (.int .i64 r1)).setCell ⟨w.heap.size, 2, none⟩ (.int .i64 k1)) = W3 := ⟨_, rfl⟩
  have T3 := Lib.hid (show Sq w a3 n3 cap3 r1 k1 x1 a2 n2 cap2 p2 i2 z2 W3 by rw [← hW3]; exact (T2.out.call hb).put1 hr (fun x h => by have := hx x h; have := HS2.out; omega))
  have HS3 := Lib.hid (show w.heap.size + 3 ≤ W3.heap.size by rw [← hW3]; have := hb.size; have := HS2.out; simp [World.setCell]; omega)
  have HW3 := Lib.hid hW3
  have g3 := T2.out.c2.below hb
  clear c0 c1 c2 f0 f1 f2
  obtain ⟨c0, c1, c2, f0, f1, f2⟩ := T2.out.c1.below hb
  obtain ⟨d0', d1', d2', g0', g1', g2'⟩ := g3
  clear hb hr hn hx hW3
  go_wp2_with fail
  rw [HW3.out]
  refine (normal_ok a2 n2 cap2 z2 p2 i2 G2.out _ T3.out.r2).mono ?_
  rintro e w4 ⟨a4, n4, cap4, x2, r2, k2, rfl, hb, hr, hn, hx⟩
  obtain ⟨rfl, rfl, rfl⟩ := hn.canon G2.out G2.out HN.out.2 (fun _ => rfl)
  obtain ⟨W4, hW4⟩ : ∃ W4, (((w4.setCell ⟨w.heap.size + 1, 0, none⟩ (.slice a4 n4 cap4)).setCell ⟨w.heap.size + 1, 1, none⟩ (.int .i64 r2)).setCell ⟨w.heap.size + 1, 2, none⟩ (.int .i64 k2)) = W4 := ⟨_, rfl⟩
  have T4 := Lib.hid (show Sq w a3 n3 cap3 r1 k1 x1 a4 n4 cap4 r2 k2 x2 W4 by rw [← hW4]; exact (T3.out.call hb).put2 hr (fun x h => by have := hx x h; have := HS3.out; omega))
  have HW4 := Lib.hid hW4
  clear c0 c1 c2 f0 f1 f2 d0' d1' d2' g0' g1' g2'
  obtain ⟨c0, c1, c2, f0, f1, f2⟩ := T3.out.c2.below hb
  have g4 := T3.out.c1.below hb
  obtain ⟨d0', d1', d2', g0', g1', g2'⟩ := g4
  clear hb hr hn hx hW4
  go_wp2_with fail
  rw [HW4.out]
  refine (common_any r1 r2 L HL.out b1 (by omega) d1 (by omega) _).mono ?_
  rintro e w5 ⟨rfl, hd5⟩
  have T5 := Lib.hid (T4.out.call (below_dr (Below.refl _ _) hd5))
  clear c0 c1 c2 f0 f1 f2 d0' d1' d2' g0' g1' g2' hd5
  have hL3 : (120 : Int) < (L : Int) := by omega
  have BZ := Lib.hid T5.out.below
  have HP := Lib.hid (show GivesPBad 3 w (.returned (.tuple #[(.agg #[.slice none 0 0, .int .i64 0, .int .i64 0, .slice none 0 0, .int .i64 0, .int .i64 0, .int .i64 0]), .int .i64 3])) (((((((w5.setCell ⟨w.heap.size + 2, 0, none⟩ (.slice none 0 0)).setCell ⟨w.heap.size + 2, 1, none⟩ (.int .i64 0)).setCell ⟨w.heap.size + 2, 2, none⟩ (.int .i64 0)).setCell ⟨w.heap.size + 2, 3, none⟩ (.slice none 0 0)).setCell ⟨w.heap.size + 2, 4, none⟩ (.int .i64 0)).setCell ⟨w.heap.size + 2, 5, none⟩ (.int .i64 0)).setCell ⟨w.heap.size + 2, 6, none⟩ (.int .i64 0)) from ⟨rfl, below_set7 BZ.out (by omega) _ _ _ _ _ _ _⟩)
  obtain ⟨⟨x0, x1', x2', f0, f1, f2⟩, x3, x4, x5, x6, f3, f4, f5, f6⟩ := T5.out.res
  go_wp2_with fail
  exact bodyPost_ret (v := .tuple #[(.agg #[.slice none 0 0, .int .i64 0, .int .i64 0, .slice none 0 0, .int .i64 0, .int .i64 0, .int .i64 0]), .int .i64 3]) (by simp [results, Try.results87, go_sem, x0, x1', x2', x3, x4, x5, x6]) rfl HP.out

set_option maxRecDepth 100000 in
set_option maxHeartbeats 3200000 in
theorem cof_lim (a1 : Option Addr) (n1 cap1 : Nat) (z1 : List Int) (p1 : Nat) (i1 : Int) (g1 : Good z1 p1 i1) (a2 : Option Addr) (n2 cap2 : Nat) (z2 : List Int) (p2 : Nat) (i2 : Int) (g2 : Good z2 p2 i2) (L : Nat) (hL : LcmN z1 p1 i1 z2 p2 i2 L) (hL2 : 120 < L) (w : World) (h1 : RowZ w a1 n1 cap1 z1) (h2 : RowZ w a2 n2 cap2 z2) :
    Calls Try.prog 36 #[curV a1 n1 cap1 p1 i1, curV a2 n2 cap2 p2 i2] w (GivesBad 3 w) := by
  obtain ⟨y1, q1, j1, y2, q2, j2, hn1, hn2, hLL⟩ := hL
  have HG := Lib.hid (And.intro g1 g2)
  have HN := Lib.hid (And.intro hn1 hn2)
  have HLL := Lib.hid hLL
  clear g1 g2 hn1 hn2 hLL
  obtain ⟨W, hW⟩ : ∃ W, ((w.alloc (.cells #[.slice a1 n1 cap1, .int .i64 p1, .int .i64 i1] 24)).alloc (.cells #[.slice a2 n2 cap2, .int .i64 p2, .int .i64 i2] 24)).alloc (.cells #[.slice none 0 0, .int .i64 0, .int .i64 0] 24) = W := ⟨_, rfl⟩
  obtain ⟨⟨hB, hWs⟩, k1, k2, kr⟩ := boxesB w a1 n1 cap1 p1 i1 a2 n2 cap2 p2 i2 hW
  have HB := Lib.hid hB
  have KR := Lib.hid kr
  have HR := Lib.hid (And.intro (h1.under hB) (h2.under hB))
  have HW := Lib.hid hW
  obtain ⟨c0, c1, c2, f0, f1, f2⟩ := k1
  obtain ⟨d0, d1, d2, e0, e1, e2⟩ := k2
  clear h1 h2 hB kr hWs hW
  go_enter Try.func36, Try.ntmps36
  go_wp2_with fail
  try rw [HW.out]
  clear c0 c1 c2 f0 f1 f2 d0 d1 d2 e0 e1 e2
  refine (cpaired_lim a1 n1 cap1 z1 p1 i1 HG.out.1 a2 n2 cap2 z2 p2 i2 HG.out.2 HN.out.1 HN.out.2 L HLL.out hL2 _ HR.out.1 HR.out.2).mono ?_
  rintro e v1 ⟨rfl, hb⟩
  obtain ⟨W2, hw⟩ : ∃ W2, v1.alloc (.cells #[.slice none 0 0, .int .i64 0, .int .i64 0, .slice none 0 0, .int .i64 0, .int .i64 0, .int .i64 0] 100) = W2 := ⟨_, rfl⟩
  have hz : Below W.heap.size W W2 := by rw [← hw]; exact hb.trans ((below_box _).mono hb.size)
  have HP := Lib.hid (GivesBad.post (b := w.heap.size + 2) HB.out (by omega) hz 3)
  have KR2 := Lib.hid (KR.out.below hz)
  have HW2 := Lib.hid hw
  clear hb hz hw
  go_upto_region 3 with fail
  try rw [HW2.out]
  obtain ⟨r0, r1, r2, r3, r4, r5⟩ := KR2.out
  go_wp2_with fail
  exact bodyPost_ret (v := .tuple #[curV none 0 0 0 0, .int .i64 3]) (by simp [results, Try.results36, go_sem, r0, r1, r2]) rfl HP.out

end Go.Proofs.Ytcpfphlijeajiaa
