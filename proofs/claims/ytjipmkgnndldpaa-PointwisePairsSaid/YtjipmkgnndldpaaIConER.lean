/- Of, Prove and Check of the convolution. By the verifier's side. | Check: its tests, and that it accepts what Prove returns. By the verifier's side. | Check of no certificate; the chapter's example; curves that are periodic by 24 ticks in the end. By the verifier's side. | The document's Minimum by its meaning. By the verifier's side. | The document's Later, Line and Flat. By the verifier's side. | Mathematics of the convolution of lines, without the program. By the verifier's side. -/
import Derived.Test.YtjipmkgnndldpaaIRowF
import Derived.Test.YtjipmkgnndldpaaIKeepT
import Derived.BigRegion
import Derived.Test.YtjipmkgnndldpaaIPwMPwOPwXR56M
import Derived.Test.YtjipmkgnndldpaaIR5D
import Derived.Test.YtjipmkgnndldpaaICurX
import Derived.Test.YtjipmkgnndldpaaIPwSPwU
import Derived.Test.YtjipmkgnndldpaaIBaseApartPickKeepS
import Derived.Deep.AppendLies
namespace Go.Proofs.Ytjipmkgnndldpaa
open Go.RowKit
set_option linter.unusedSimpArgs false
set_option linter.unusedVariables false

end Go.Proofs.Ytjipmkgnndldpaa

namespace Go.Proofs.Ytjipmkgnndldpaa
open Go.RowKit
set_option linter.unusedSimpArgs false
set_option linter.unusedVariables false

section
variable {w u v : World} {cb rb pb hb tb la S1 : Nat} {G1 : Int} {lb S2 : Nat} {G2 : Int} {L lh Sh : Nat} {Gh : Int} {a : Option Addr} {n cap r : Nat} {knc : Int} {F ab N : Nat} {a5 : Option Addr} {n5 cap5 : Nat} {hs : List Int} {F1 F2 Fh : Nat → Int} {A : Nat → Nat}
end
end Go.Proofs.Ytjipmkgnndldpaa

namespace Go.Proofs.Ytjipmkgnndldpaa
open Go.RowKit
set_option linter.unusedSimpArgs false
set_option linter.unusedVariables false

section
variable (a1 : Option Addr) (n1 cap1 : Nat) (z1 : List Int) (p1 : Nat) (i1 : Int) (g1 : Good z1 p1 i1) (a2 : Option Addr) (n2 cap2 : Nat) (z2 : List Int) (p2 : Nat) (i2 : Int) (g2 : Good z2 p2 i2) (h1 : Day (eC z1 p1 i1)) (h2 : Day (eC z2 p2 i2))
    (w : World) (r1 : RowZ w a1 n1 cap1 z1) (r2 : RowZ w a2 n2 cap2 z2)
include g1 g2 h1 h2 r1 r2
end


end Go.Proofs.Ytjipmkgnndldpaa

namespace Go.Proofs.Ytjipmkgnndldpaa
open Go.RowKit
set_option linter.unusedSimpArgs false
set_option linter.unusedVariables false

set_option maxHeartbeats 400000 in
theorem rlesser_min (a b : Int) (w : World) : Calls Try.prog 218 #[.int .i64 a, .int .i64 b, .bool true] w fun e w' => e = .returned (.int .i64 (min a b)) ∧ w' = w := by
  by_cases h : a ≤ b
  · have e : min a b = a := by omega
    rw [e]
    go_enter Try.func218, Try.ntmps218
    go_wp2_with fail
    all_goals go_ret
    all_goals exact ⟨ret_int (by omega), rfl⟩
  · have e : min a b = b := by omega
    rw [e]
    go_enter Try.func218, Try.ntmps218
    go_wp2_with fail
    all_goals go_ret
    all_goals exact ⟨ret_int (by omega), rfl⟩

set_option maxRecDepth 100000 in
set_option maxHeartbeats 1600000 in
theorem rslopes (b1 : Option Addr) (m1 c1 q1 : Nat) (j1 : Int) (b2 : Option Addr) (m2 c2 q2 : Nat) (j2 : Int) (L k1 k2 : Nat) (x1 x2 : Int) (hkq1 : (L : Int).tdiv (q1 : Int) = (k1 : Int)) (hkz1 : ¬ (q1 : Int) = 0) (hkn1 : ¬ q1 = 0) (hkd1 : (L : Int) / (q1 : Int) = (k1 : Int)) (hxw1 : IntKind.i64.wrap (j1 * (k1 : Int)) = x1) (hxx1 : IntKind.i64.wrap x1 = x1) (hkw1 : IntKind.i64.wrap (k1 : Int) = (k1 : Int)) (hkq2 : (L : Int).tdiv (q2 : Int) = (k2 : Int)) (hkz2 : ¬ (q2 : Int) = 0) (hkn2 : ¬ q2 = 0) (hkd2 : (L : Int) / (q2 : Int) = (k2 : Int)) (hxw2 : IntKind.i64.wrap (j2 * (k2 : Int)) = x2) (hxx2 : IntKind.i64.wrap x2 = x2) (hkw2 : IntKind.i64.wrap (k2 : Int) = (k2 : Int)) (hb1 : 0 ≤ x1 ∧ x1 ≤ 128849018880) (hb2 : 0 ≤ x2 ∧ x2 ≤ 128849018880) (w : World) :
    Calls Try.prog 136 #[curV b1 m1 c1 q1 j1, curV b2 m2 c2 q2 j2, .int .i64 L] w (Says (.int .i64 (x1 - x2)) w) := by
  obtain ⟨W, hW⟩ : ∃ W, (w.alloc (.cells #[.slice b1 m1 c1, .int .i64 q1, .int .i64 j1] 38)).alloc (.cells #[.slice b2 m2 c2, .int .i64 q2, .int .i64 j2] 38) = W := ⟨_, rfl⟩
  have hB : Below w.heap.size w W := by rw [← hW]; exact ((Below.refl _ _).alloc (Nat.le_refl _) _).alloc (by simp) _
  have k1' : Cur3 W w.heap.size (.slice b1 m1 c1) (.int .i64 q1) (.int .i64 j1) := by rw [← hW]; exact (Cur3.new w _ _ _ _).alloc _
  have k2' : Cur3 W (w.heap.size + 1) (.slice b2 m2 c2) (.int .i64 q2) (.int .i64 j2) := by rw [← hW]; exact Cur3.new2 w _ _ _ _ _
  have HB := Lib.hid hB
  have HW := Lib.hid hW
  obtain ⟨g0, g1, g2, g3, g4, g5⟩ := k1'
  obtain ⟨d0, d1, d2, d3, d4, d5⟩ := k2'
  obtain ⟨hb1a, hb1b⟩ := hb1
  obtain ⟨hb2a, hb2b⟩ := hb2
  have hxs : IntKind.i64.wrap (x1 - x2) = x1 - x2 := IntWalk.i64_in _ ⟨by omega, by omega⟩
  clear hB hW
  go_enter Try.func136, Try.ntmps136
  go_upto_region 1 with fail
  try rw [HW.out]
  go_quiet (fail)
  go_wp2_with fail
  go_ret
  exact ⟨rfl, HB.out.drewN _⟩

/-- What stands behind the list. -/
structure EX (w : World) (A O R : Nat) (b1 : Option Addr) (m1 c1 q1 : Nat) (j1 : Int) (y1 : List Int) (b2 : Option Addr) (m2 c2 q2 : Nat) (j2 : Int) (y2 : List Int) (L g cap M : Nat) (f : Nat → Int) (inc : Int) (u : World) : Prop where
  xa : Bx u A b1 m1 c1 q1 j1 y1
  xb : Bx u (A + 1) b2 m2 c2 q2 j2 y2
  out : Cur3 u O (.slice (some ⟨g, 0, none⟩) M cap) (.int .i64 L) (.int .i64 inc)
  row : RowZ u (some ⟨g, 0, none⟩) M cap (firsts f M)
  res : Cur3 u R (.slice none 0 0) (.int .i64 0) (.int .i64 0)
  below : Below w.heap.size w u
  n1 : A + 1 < O
  n2 : R < A
  n3 : O < g
  n4 : ∀ x, b1 = some x → 1 ≤ m1 → x.block < O
  n5 : ∀ x, b2 = some x → 1 ≤ m2 → x.block < O
  n6 : w.heap.size ≤ R
section
variable {w u v : World} {A O R : Nat} {b1 : Option Addr} {m1 c1 q1 : Nat} {j1 : Int} {y1 : List Int} {b2 : Option Addr} {m2 c2 q2 : Nat} {j2 : Int} {y2 : List Int} {L g cap M : Nat} {f : Nat → Int} {inc : Int}
theorem EX.call (h : EX w A O R b1 m1 c1 q1 j1 y1 b2 m2 c2 q2 j2 y2 L g cap M f inc u) (hb : Below u.heap.size u v) : EX w A O R b1 m1 c1 q1 j1 y1 b2 m2 c2 q2 j2 y2 L g cap M f inc v :=
  ⟨h.xa.under hb, h.xb.under hb, h.out.below hb, h.row.under hb, h.res.below hb, h.below.trans (hb.mono h.below.size), h.n1, h.n2, h.n3, h.n4, h.n5, h.n6⟩
theorem EX.put (h : EX w A O R b1 m1 c1 q1 j1 y1 b2 m2 c2 q2 j2 y2 L g cap M f inc u) (x : Int) : EX w A O R b1 m1 c1 q1 j1 y1 b2 m2 c2 q2 j2 y2 L g cap M f x (u.setCell ⟨O, 2, none⟩ (.int .i64 x)) := by
  have n1 := h.n1; have n2 := h.n2; have n3 := h.n3; have n6 := h.n6
  refine ⟨⟨h.xa.box.other (by omega) _ _, h.xa.row.store (fun y hy hn => by have := h.n4 y hy hn; omega) _ _⟩, ⟨h.xb.box.other (by omega) _ _, h.xb.row.store (fun y hy hn => by have := h.n5 y hy hn; omega) _ _⟩, h.out.set2 _, h.row.store (fun y hy _ => by cases hy; show g ≠ O; omega) _ _, h.res.other (by omega) _ _, h.below.setCell (p := ⟨O, 2, none⟩) (by show w.heap.size ≤ O; omega) _, h.n1, h.n2, h.n3, h.n4, h.n5, h.n6⟩
end

set_option maxRecDepth 100000 in
set_option maxHeartbeats 12800000 in
theorem rext_min (a1 : Option Addr) (n1 cap1 : Nat) (z1 : List Int) (p1 : Nat) (i1 : Int) (g1 : Good z1 p1 i1) (a2 : Option Addr) (n2 cap2 : Nat) (z2 : List Int) (p2 : Nat) (i2 : Int) (g2 : Good z2 p2 i2) (L : Nat) (hL : LcmN z1 p1 i1 z2 p2 i2 L) (hL2 : L ≤ 120) (w : World) (h1 : RowZ w a1 n1 cap1 z1) (h2 : RowZ w a2 n2 cap2 z2) :
    Calls Try.prog 130 #[curV a1 n1 cap1 p1 i1, curV a2 n2 cap2 p2 i2, .bool true] w (GivesE (eMin z1 p1 i1 z2 p2 i2) w) := by
  obtain ⟨ii0, ihi, ihz0, ihz1, ihz2⟩ := info_parts info_int
  have HG := Lib.hid (And.intro g1 g2)
  have HL := Lib.hid (And.intro hL hL2)
  obtain ⟨W, hW⟩ : ∃ W, ((w.alloc (.cells #[.slice a1 n1 cap1, .int .i64 p1, .int .i64 i1] 38)).alloc (.cells #[.slice a2 n2 cap2, .int .i64 p2, .int .i64 i2] 38)).alloc (.cells #[.slice none 0 0, .int .i64 0, .int .i64 0] 38) = W := ⟨_, rfl⟩
  obtain ⟨⟨hB, hWs⟩, k1, k2, kr⟩ := boxesB w a1 n1 cap1 p1 i1 a2 n2 cap2 p2 i2 hW
  have HB := Lib.hid hB
  have KR := Lib.hid kr
  have HR := Lib.hid (And.intro (h1.under hB) (h2.under hB))
  have HWS := Lib.hid hWs
  have hW1 := hW
  obtain ⟨m0, m1, m2, m3, m4, m5⟩ := k1
  obtain ⟨u0, u1, u2, u3, u4, u5⟩ := k2
  clear h1 h2 hB kr hW hWs g1 g2 hL hL2
  go_enter Try.func130, Try.ntmps130
  go_wp2_with fail
  try rw [hW1]
  clear hW1 m0 m1 m2 m3 m4 m5 u0 u1 u2 u3 u4 u5
  have hn120 : ¬ 120 < L := by have := HL.out.2; omega
  refine (rpair_any a1 n1 cap1 z1 p1 i1 HG.out.1 a2 n2 cap2 z2 p2 i2 HG.out.2 L HL.out.1 L 0 (if_neg hn120).symm (if_neg hn120).symm _ HR.out.1 HR.out.2).mono ?_
  rintro e v1 ⟨b1, m1, c1, y1, q1, j1, b2, m2, c2, y2, q2, j2, rfl, hb, hr1, hr2, hn1, hn2, hx1, hx2⟩
  obtain ⟨W2, hw⟩ : ∃ W2, (v1.alloc (.cells #[.slice b1 m1 c1, .int .i64 q1, .int .i64 j1] 38)).alloc (.cells #[.slice b2 m2 c2, .int .i64 q2, .int .i64 j2] 38) = W2 := ⟨_, rfl⟩
  have hz : Below v1.heap.size v1 W2 := by rw [← hw]; exact ((Below.refl _ _).alloc (Nat.le_refl _) _).alloc (by simp) _
  have hWz : Below W.heap.size W W2 := hb.trans (hz.mono hb.size)
  have KR2 := Lib.hid (KR.out.below hWz)
  have HB2 := Lib.hid (HB.out.trans (hWz.mono HB.out.size))
  have XA := Lib.hid (show Bx W2 v1.heap.size b1 m1 c1 q1 j1 y1 by rw [← hw]; exact (Bx.new hr1).under (box_below _ _))
  have XB := Lib.hid (show Bx W2 (v1.heap.size + 1) b2 m2 c2 q2 j2 y2 by
    rw [← hw]
    have := Bx.new (p := q2) (inc := j2) (hr2.under (box_below v1 (.cells #[.slice b1 m1 c1, .int .i64 q1, .int .i64 j1] 38)))
    simpa using this)
  have GY := Lib.hid (And.intro (hn1.good HG.out.1) (hn2.good HG.out.2))
  have HN := Lib.hid (And.intro hn1 hn2)
  have hLL : q1 / Nat.gcd q1 q2 * q2 = L := by
    obtain ⟨u1, r1, k1, u2, r2, k2, n1, n2, e⟩ := HL.out.1
    obtain ⟨_, rfl, _⟩ := n1.canon HG.out.1 HG.out.1 hn1 (fun _ => rfl)
    obtain ⟨_, rfl, _⟩ := n2.canon HG.out.2 HG.out.2 hn2 (fun _ => rfl)
    exact e
  have HLC := Lib.hid (lcm_of GY.out.1.p1 GY.out.2.p1 hLL)
  have hs1 : w.heap.size + 3 ≤ v1.heap.size := by have := hb.size; have := HWS.out; omega
  have HEQ := Lib.hid (And.intro (hn1.eform HG.out.1).2.1 (hn2.eform HG.out.2).2.1)
  have hw1 := hw
  obtain ⟨A, hA⟩ : ∃ A, v1.heap.size = A := ⟨_, rfl⟩
  rw [hA] at XA XB hs1
  obtain ⟨g0, g1, g2, g3, g4, g5⟩ := XA.out.box
  obtain ⟨d0, d1, d2, d3, d4, d5⟩ := XB.out.box
  have hL1 := HLC.out.one
  have hL120 := HL.out.2
  have q11 := GY.out.1.p1
  have q12 := GY.out.1.p2
  have q21 := GY.out.2.p1
  have q22 := GY.out.2.p2
  have bj1 := GY.out.1.i0
  have bj1' := GY.out.1.i1
  have bj2 := GY.out.2.i0
  have bj2' := GY.out.2.i1
  clear hb hr1 hr2 hn1 hn2 hx1 hx2 hw hz hWz hLL hn120
  obtain ⟨k1, hk1⟩ : ∃ k, L / q1 = k := ⟨_, rfl⟩
  have hk1b : k1 ≤ 120 := by rw [← hk1]; exact Nat.le_trans (Nat.div_le_self _ _) hL120
  have hkq1 : (L : Int).tdiv (q1 : Int) = (k1 : Int) := by rw [Int.tdiv_eq_ediv_of_nonneg (by omega), ← hk1]; exact Int.natCast_ediv _ _
  have hkz1 : ¬ (q1 : Int) = 0 := by omega
  have hkn1 : ¬ q1 = 0 := by omega
  have hkd1 : (L : Int) / (q1 : Int) = (k1 : Int) := by rw [← hk1]; exact (Int.natCast_ediv _ _).symm
  obtain ⟨x1, hx1⟩ : ∃ x, j1 * (k1 : Int) = x := ⟨_, rfl⟩
  have hxb1 : 0 ≤ x1 ∧ x1 ≤ 128849018880 := by
    rw [← hx1]
    have h := Int.mul_le_mul bj1' (show (k1 : Int) ≤ 120 by omega) (by omega) (by omega)
    exact ⟨Int.mul_nonneg bj1 (by omega), by omega⟩
  obtain ⟨hxl1, hxu1⟩ := hxb1
  have hxw1 : IntKind.i64.wrap (j1 * (k1 : Int)) = x1 := by rw [hx1]; exact IntWalk.i64_in _ ⟨by omega, by omega⟩
  have hxx1 : IntKind.i64.wrap x1 = x1 := IntWalk.i64_in _ ⟨by omega, by omega⟩
  have hkw1 : IntKind.i64.wrap (k1 : Int) = (k1 : Int) := IntWalk.i64_in _ ⟨by omega, by omega⟩
  have HK1 := Lib.hid (And.intro hk1 hx1)
  obtain ⟨k2, hk2⟩ : ∃ k, L / q2 = k := ⟨_, rfl⟩
  have hk2b : k2 ≤ 120 := by rw [← hk2]; exact Nat.le_trans (Nat.div_le_self _ _) hL120
  have hkq2 : (L : Int).tdiv (q2 : Int) = (k2 : Int) := by rw [Int.tdiv_eq_ediv_of_nonneg (by omega), ← hk2]; exact Int.natCast_ediv _ _
  have hkz2 : ¬ (q2 : Int) = 0 := by omega
  have hkn2 : ¬ q2 = 0 := by omega
  have hkd2 : (L : Int) / (q2 : Int) = (k2 : Int) := by rw [← hk2]; exact (Int.natCast_ediv _ _).symm
  obtain ⟨x2, hx2⟩ : ∃ x, j2 * (k2 : Int) = x := ⟨_, rfl⟩
  have hxb2 : 0 ≤ x2 ∧ x2 ≤ 128849018880 := by
    rw [← hx2]
    have h := Int.mul_le_mul bj2' (show (k2 : Int) ≤ 120 by omega) (by omega) (by omega)
    exact ⟨Int.mul_nonneg bj2 (by omega), by omega⟩
  obtain ⟨hxl2, hxu2⟩ := hxb2
  have hxw2 : IntKind.i64.wrap (j2 * (k2 : Int)) = x2 := by rw [hx2]; exact IntWalk.i64_in _ ⟨by omega, by omega⟩
  have hxx2 : IntKind.i64.wrap x2 = x2 := IntWalk.i64_in _ ⟨by omega, by omega⟩
  have hkw2 : IntKind.i64.wrap (k2 : Int) = (k2 : Int) := IntWalk.i64_in _ ⟨by omega, by omega⟩
  have HK2 := Lib.hid (And.intro hk2 hx2)
  obtain ⟨f, hf⟩ : ∃ f, encF (eMin y1 q1 j1 y2 q2 j2) = f := ⟨_, rfl⟩
  have HF := Lib.hid hf
  have HEE := Lib.hid (show eMin y1 q1 j1 y2 q2 j2 = eMin z1 p1 i1 z2 p2 i2 from funext fun t => by unfold eMin; rw [HEQ.out.1 t, HEQ.out.2 t])
  have HAO := Lib.hid (show A + 1 < W2.heap.size ∧ w.heap.size + 2 < A ∧ (∀ x, b1 = some x → 1 ≤ m1 → x.block < W2.heap.size) ∧ (∀ x, b2 = some x → 1 ≤ m2 → x.block < W2.heap.size) from ⟨XB.out.box.lt, by omega, XA.out.row.far, XB.out.row.far⟩)
  clear hf
  go_upto_region 4 with fail
  try rw [hw1]
  clear hw1
  have KS4 := Lib.hid (show ∀ u, Below W2.heap.size W2 u → ((u.cell? ⟨A, 0, none⟩ = some (.slice b1 m1 c1) ∧ u.cell? ⟨A, 1, none⟩ = some (.int .i64 q1) ∧ u.cell? ⟨A, 2, none⟩ = some (.int .i64 j1)) ∧ (u.cell? ⟨A + 1, 0, none⟩ = some (.slice b2 m2 c2) ∧ u.cell? ⟨A + 1, 1, none⟩ = some (.int .i64 q2) ∧ u.cell? ⟨A + 1, 2, none⟩ = some (.int .i64 j2))) from fun u hu => by
    have x := XA.out.box.below hu
    have y := XB.out.box.below hu
    exact ⟨⟨x.c0, x.c1, x.c2⟩, y.c0, y.c1, y.c2⟩)
  have O4 := Lib.hid ((Below.refl W2.heap.size W2).drew)
  clear g0 g1 g2 g3 g4 g5 d0 d1 d2 d3 d4 d5
  refine wp_region_keeps (fun u => ((u.cell? ⟨A, 0, none⟩ = some (.slice b1 m1 c1) ∧ u.cell? ⟨A, 1, none⟩ = some (.int .i64 q1) ∧ u.cell? ⟨A, 2, none⟩ = some (.int .i64 j1)) ∧ (u.cell? ⟨A + 1, 0, none⟩ = some (.slice b2 m2 c2) ∧ u.cell? ⟨A + 1, 1, none⟩ = some (.int .i64 q2) ∧ u.cell? ⟨A + 1, 2, none⟩ = some (.int .i64 j2)))) 10 1 (by kernel_rfl) (by kernel_rfl) (KS4.out _ O4.out) (fun hHeld0 => ?_)
  refine wpAnyK_take (i := 0) (v := ?_) rfl (by kernel_rfl) (fun _ _ _ h => h) (Or.inl ⟨by rfl, ?_⟩) (by assumption) ?_
  rotate_left
  · (intro w hSw; (try dsimp only at hSw); go_simp; try with_reducible rfl)
  try simp only [Act.put, List.getElem_toArray, List.getElem_cons_zero, List.getElem_cons_succ, List.setIfInBounds_toArray, List.set_cons_zero, List.set_cons_succ]
  refine wpAnyK_take (i := 1) (v := ?_) rfl (by kernel_rfl) (fun _ _ _ h => h) (Or.inl ⟨by rfl, ?_⟩) (by assumption) ?_
  rotate_left
  · (intro w hSw; (try dsimp only at hSw); go_simp; try with_reducible rfl)
  try simp only [Act.put, List.getElem_toArray, List.getElem_cons_zero, List.getElem_cons_succ, List.setIfInBounds_toArray, List.set_cons_zero, List.set_cons_succ]
  refine wpAnyK_take (i := 2) (v := ?_) rfl (by kernel_rfl) (fun _ _ _ h => h) (Or.inl ⟨by rfl, ?_⟩) (by assumption) ?_
  rotate_left
  · (intro w hSw; (try dsimp only at hSw); go_simp; try with_reducible rfl)
  try simp only [Act.put, List.getElem_toArray, List.getElem_cons_zero, List.getElem_cons_succ, List.setIfInBounds_toArray, List.set_cons_zero, List.set_cons_succ]
  refine wpAnyK_take (i := 3) (v := ?_) rfl (by kernel_rfl) (fun _ _ _ h => h) (Or.inl ⟨by rfl, ?_⟩) (by assumption) ?_
  rotate_left
  · (intro w hSw; (try dsimp only at hSw); go_simp; try with_reducible rfl)
  try simp only [Act.put, List.getElem_toArray, List.getElem_cons_zero, List.getElem_cons_succ, List.setIfInBounds_toArray, List.set_cons_zero, List.set_cons_succ]
  refine wpAnyK_take (i := 4) (v := ?_) rfl (by kernel_rfl) (fun _ _ _ h => h) (Or.inl ⟨by rfl, ?_⟩) (by assumption) ?_
  rotate_left
  · (intro w hSw; (try dsimp only at hSw); go_simp; try with_reducible rfl)
  try simp only [Act.put, List.getElem_toArray, List.getElem_cons_zero, List.getElem_cons_succ, List.setIfInBounds_toArray, List.set_cons_zero, List.set_cons_succ]
  refine wpAnyK_take (i := 5) (v := ?_) rfl (by kernel_rfl) (fun _ _ _ h => h) (Or.inl ⟨by rfl, ?_⟩) (by assumption) ?_
  rotate_left
  · (intro w hSw; (try dsimp only at hSw); go_simp; try with_reducible rfl)
  try simp only [Act.put, List.getElem_toArray, List.getElem_cons_zero, List.getElem_cons_succ, List.setIfInBounds_toArray, List.set_cons_zero, List.set_cons_succ]
  refine wpAnyK_take (i := 6) (v := ?_) rfl (by kernel_rfl) (fun _ _ _ h => h) (Or.inl ⟨by rfl, ?_⟩) (by assumption) ?_
  rotate_left
  · (intro w hSw; (try dsimp only at hSw); go_simp; try with_reducible rfl)
  try simp only [Act.put, List.getElem_toArray, List.getElem_cons_zero, List.getElem_cons_succ, List.setIfInBounds_toArray, List.set_cons_zero, List.set_cons_succ]
  refine wpAnyK_take (i := 7) (v := ?_) rfl (by kernel_rfl) (fun _ _ _ h => h) (Or.inl ⟨by rfl, ?_⟩) (by assumption) ?_
  rotate_left
  · (intro w hSw; (try dsimp only at hSw); go_simp; try with_reducible rfl)
  try simp only [Act.put, List.getElem_toArray, List.getElem_cons_zero, List.getElem_cons_succ, List.setIfInBounds_toArray, List.set_cons_zero, List.set_cons_succ]
  refine wpAnyK_take (i := 8) (v := ?_) rfl (by kernel_rfl) (fun _ _ _ h => h) (Or.inl ⟨by rfl, ?_⟩) (by assumption) ?_
  rotate_left
  · (intro w hSw; (try dsimp only at hSw); go_simp; try with_reducible rfl)
  try simp only [Act.put, List.getElem_toArray, List.getElem_cons_zero, List.getElem_cons_succ, List.setIfInBounds_toArray, List.set_cons_zero, List.set_cons_succ]
  refine wpAnyK_step (i := 9) rfl (by kernel_rfl) (fun K hK => ?_)
  go_simp
  refine hK.out _ _ (KS4.out _ (O4.out.alloc O4.out.size _)) (fun hHeld1 => ?_)
  clear hK K hHeld0
  try simp only [Act.put, List.getElem_toArray, List.getElem_cons_zero, List.getElem_cons_succ, List.setIfInBounds_toArray, List.set_cons_zero, List.set_cons_succ]
  refine wpAnyK_done (by kernel_rfl) ?_
  simp only [List.drop_succ_cons, List.drop_zero]
  clear hHeld1
  have XA3 := XA
  have XB3 := XB
  have KR3 := KR2
  have HB3 := HB2
  clear KR2 HB2 XA XB KS4 O4
  have L0 := Lib.hid (Ap.start W2 (L : Int) (x1) f).drew
  have KS8 := Lib.hid (show ∀ (sv : Value) (k : Nat) (u : World), Ap W2 (L : Int) (x1) f k sv u → (((u.cell? ⟨A, 0, none⟩ = some (.slice b1 m1 c1) ∧ u.cell? ⟨A, 1, none⟩ = some (.int .i64 q1) ∧ u.cell? ⟨A, 2, none⟩ = some (.int .i64 j1)) ∧ (u.cell? ⟨A + 1, 0, none⟩ = some (.slice b2 m2 c2) ∧ u.cell? ⟨A + 1, 1, none⟩ = some (.int .i64 q2) ∧ u.cell? ⟨A + 1, 2, none⟩ = some (.int .i64 j2))) ∧ u.cell? ⟨W2.heap.size, 0, none⟩ = some sv) from fun sv k u hu => by
    have x := XA3.out.box.below hu.below
    have y := XB3.out.box.below hu.below
    exact ⟨⟨⟨x.c0, x.c1, x.c2⟩, y.c0, y.c1, y.c2⟩, hu.out.c0⟩)
  go_wp2_with fail
  obtain ⟨MM, hMM⟩ : ∃ m, 400 + L = m := ⟨_, rfl⟩
  have HMC := Lib.hid hMM
  have hMMb1 : L ≤ MM := by omega
  have hMMb2 : MM ≤ 520 := by omega
  have hMMb3 : 1 ≤ MM := by omega
  have HIN := Lib.hid (show ∀ t, t < MM → In64 (f t) from fun t ht => by
    have h := (min_pair GY.out.1 GY.out.2).mid t (by omega)
    rw [HF.out] at h
    exact ⟨by have := h.bd; omega, by have := h.bd; omega⟩)
  clear hMM
  go_loopw [13] (fun sl wx => ∃ (k : Nat) (sv : Value), sl = .int .i64 k ∧ k ≤ MM ∧ Hid (Ap W2 (L : Int) (x1) f k sv wx)) (fun sl _ => MM - (intOf sl).toNat)
  case atStart => exact ⟨0, .slice none 0 0, by go_num, by omega, L0⟩
  case round =>
    obtain ⟨k, sv, rfl, hk, HS⟩ := hrel
    obtain ⟨wk, rfl⟩ : ∃ u : World, u = wr := ⟨_, rfl⟩
    obtain ⟨g0, g1, g2, g3, g4, g5⟩ := XA3.out.box.below HS.out.below
    obtain ⟨d0, d1, d2, d3, d4, d5⟩ := XB3.out.box.below HS.out.below
    by_cases hlt : k < MM
    · have hlti : (k : Int) < 400 + (L : Int) := by have := HMC.out; omega
      obtain ⟨vx, hvx⟩ : ∃ v, atC y1 q1 j1 k = v := ⟨_, rfl⟩
      obtain ⟨vy, hvy⟩ : ∃ v, atC y2 q2 j2 k = v := ⟨_, rfl⟩
      have MX := Lib.hid (show Mid vx by rw [← hvx]; exact at_mid GY.out.1 (by omega))
      have MY := Lib.hid (show Mid vy by rw [← hvy]; exact at_mid GY.out.2 (by omega))
      have HVX := Lib.hid hvx
      have HVY := Lib.hid hvy
      obtain ⟨vv, hvv⟩ : ∃ v, min vx vy = v := ⟨_, rfl⟩
      have HVV := Lib.hid (show f k = vv by rw [← hvv, ← HVX.out, ← HVY.out, ← HF.out]; exact min_val GY.out.1 GY.out.2 (by omega))
      have HVW := Lib.hid hvv
      clear hvv
      have HS0 := Lib.hid HS.out.drew
      clear hvx hvy
      go_upto_region 8 with fail
      clear g0 g1 g2 g3 g4 g5 d0 d1 d2 d3 d4 d5
      refine wp_region_keeps (fun u => (((u.cell? ⟨A, 0, none⟩ = some (.slice b1 m1 c1) ∧ u.cell? ⟨A, 1, none⟩ = some (.int .i64 q1) ∧ u.cell? ⟨A, 2, none⟩ = some (.int .i64 j1)) ∧ (u.cell? ⟨A + 1, 0, none⟩ = some (.slice b2 m2 c2) ∧ u.cell? ⟨A + 1, 1, none⟩ = some (.int .i64 q2) ∧ u.cell? ⟨A + 1, 2, none⟩ = some (.int .i64 j2))) ∧ u.cell? ⟨W2.heap.size, 0, none⟩ = some sv)) 11 3 (by kernel_rfl) (by kernel_rfl) (KS8.out _ _ _ HS0.out) (fun hHeld0 => ?_)
      refine wpAnyK_take (i := 0) (v := ?_) rfl (by kernel_rfl) (fun _ _ _ h => h) (Or.inl ⟨by rfl, ?_⟩) (by assumption) ?_
      rotate_left
      · (intro w hSw; (try dsimp only at hSw); go_simp; try with_reducible rfl)
      try simp only [Act.put, List.getElem_toArray, List.getElem_cons_zero, List.getElem_cons_succ, List.setIfInBounds_toArray, List.set_cons_zero, List.set_cons_succ]
      refine wpAnyK_take (i := 1) (v := ?_) rfl (by kernel_rfl) (fun _ _ _ h => h) (Or.inl ⟨by rfl, ?_⟩) (by assumption) ?_
      rotate_left
      · (intro w hSw; (try dsimp only at hSw); go_simp; try with_reducible rfl)
      try simp only [Act.put, List.getElem_toArray, List.getElem_cons_zero, List.getElem_cons_succ, List.setIfInBounds_toArray, List.set_cons_zero, List.set_cons_succ]
      refine wpAnyK_take (i := 2) (v := ?_) rfl (by kernel_rfl) (fun _ _ _ h => h) (Or.inl ⟨by rfl, ?_⟩) (by assumption) ?_
      rotate_left
      · (intro w hSw; (try dsimp only at hSw); go_simp; try with_reducible rfl)
      try simp only [Act.put, List.getElem_toArray, List.getElem_cons_zero, List.getElem_cons_succ, List.setIfInBounds_toArray, List.set_cons_zero, List.set_cons_succ]
      refine wpAnyK_take (i := 3) (v := ?_) rfl (by kernel_rfl) (fun _ _ _ h => h) (Or.inl ⟨by rfl, ?_⟩) (by assumption) ?_
      rotate_left
      · (intro w hSw; (try dsimp only at hSw); go_simp; try with_reducible rfl)
      try simp only [Act.put, List.getElem_toArray, List.getElem_cons_zero, List.getElem_cons_succ, List.setIfInBounds_toArray, List.set_cons_zero, List.set_cons_succ]
      refine wpAnyK_take (i := 5) (v := ?_) rfl (by kernel_rfl) (fun _ _ _ h => h) (Or.inl ⟨by rfl, ?_⟩) (by assumption) ?_
      rotate_left
      · (intro w hSw; (try dsimp only at hSw); go_simp; try with_reducible rfl)
      try simp only [Act.put, List.getElem_toArray, List.getElem_cons_zero, List.getElem_cons_succ, List.setIfInBounds_toArray, List.set_cons_zero, List.set_cons_succ]
      refine wpAnyK_take (i := 6) (v := ?_) rfl (by kernel_rfl) (fun _ _ _ h => h) (Or.inl ⟨by rfl, ?_⟩) (by assumption) ?_
      rotate_left
      · (intro w hSw; (try dsimp only at hSw); go_simp; try with_reducible rfl)
      try simp only [Act.put, List.getElem_toArray, List.getElem_cons_zero, List.getElem_cons_succ, List.setIfInBounds_toArray, List.set_cons_zero, List.set_cons_succ]
      refine wpAnyK_take (i := 8) (v := ?_) rfl (by kernel_rfl) (fun _ _ _ h => h) (Or.inl ⟨by rfl, ?_⟩) (by assumption) ?_
      rotate_left
      · (intro w hSw; (try dsimp only at hSw); go_simp; try with_reducible rfl)
      try simp only [Act.put, List.getElem_toArray, List.getElem_cons_zero, List.getElem_cons_succ, List.setIfInBounds_toArray, List.set_cons_zero, List.set_cons_succ]
      refine wpAnyK_step (i := 4) rfl (by kernel_rfl) (fun K hK => ?_)
      go_simp
      with_reducible refine (rat_at b1 m1 c1 y1 q1 j1 GY.out.1 _ k rfl (by omega) vx HVX.out _ (XA3.out.row.under HS0.out.below)).mono ?_
      rintro e u1 ⟨rfl, hb⟩
      have HS1 := Lib.hid (HS0.out.under hb)
      clear hb
      refine hK.out _ _ (KS8.out _ _ _ HS1.out) (fun hHeld1 => ?_)
      clear hK K hHeld0
      try simp only [Act.put, List.getElem_toArray, List.getElem_cons_zero, List.getElem_cons_succ, List.setIfInBounds_toArray, List.set_cons_zero, List.set_cons_succ]
      refine wpAnyK_step (i := 7) rfl (by kernel_rfl) (fun K hK => ?_)
      go_simp
      with_reducible refine (rat_at b2 m2 c2 y2 q2 j2 GY.out.2 _ k rfl (by omega) vy HVY.out _ (XB3.out.row.under HS1.out.below)).mono ?_
      rintro e u2 ⟨rfl, hb⟩
      have HS2 := Lib.hid (HS1.out.under hb)
      clear hb
      refine hK.out _ _ (KS8.out _ _ _ HS2.out) (fun hHeld2 => ?_)
      clear hK K hHeld1
      try simp only [Act.put, List.getElem_toArray, List.getElem_cons_zero, List.getElem_cons_succ, List.setIfInBounds_toArray, List.set_cons_zero, List.set_cons_succ]
      refine wpAnyK_step (i := 9) rfl (by kernel_rfl) (fun K hK => ?_)
      go_simp
      with_reducible refine (rlesser_min vx vy _).mono ?_
      rintro e ux ⟨rfl, rfl⟩
      rw [HVW.out]
      refine hK.out _ _ (KS8.out _ _ _ HS2.out) (fun hHeld3 => ?_)
      clear hK K hHeld2
      try simp only [Act.put, List.getElem_toArray, List.getElem_cons_zero, List.getElem_cons_succ, List.setIfInBounds_toArray, List.set_cons_zero, List.set_cons_succ]
      obtain ⟨w7, hw7⟩ : ∃ u : World, u = ux := ⟨_, rfl⟩
      refine wpAnyK_step (i := 10) rfl (by kernel_rfl) (fun K hK => ?_)
      go_simp
      refine hK.out _ _ (KS8.out _ _ _ (HS2.out.alloc _)) (fun hHeldb => ?_)
      clear hK K hHeld3
      try simp only [Act.put, List.getElem_toArray, List.getElem_cons_zero, List.getElem_cons_succ, List.setIfInBounds_toArray, List.set_cons_zero, List.set_cons_succ]
      refine wpAnyK_done (by kernel_rfl) ?_
      simp only [List.drop_succ_cons, List.drop_zero]
      clear hHeldb
      subst hw7
      have L7 := HS2
      have N8 : Hid (∀ j u, [Value.int .i64 vv][j]? = some u → (w7.alloc (.cells #[.int .i64 vv] 3)).cell? ((⟨w7.heap.size, 0, none⟩ : Addr).add j) = some u) := Lib.hid (World.news_of_block (cs := #[.int .i64 vv]) (t := 3) (fr := (0, 0)) (heap_alloc_new w7 _))
      have L8 := Lib.hid (L7.out.alloc (.cells #[.int .i64 vv] 3))
      have hlt8 : W2.heap.size + 1 ≤ w7.heap.size := L7.out.out.lt
      generalize w7.alloc (.cells #[.int .i64 vv] 3) = w8 at L8 N8 ⊢
      go_wp2_with (at_builtin; refine wpList_append_own _ rfl _ _ 27 rfl (W2.heap.size + 1) 3 ii0 (.int .i64 0) 1 8 Try.underlying27 ihi ihz0 ihz1 ihz2 rfl (by decide) _ _ _ rfl L8.out.own ⟨w7.heap.size, 0, none⟩ 1 1 [.int .i64 vv] rfl rfl N8.out ?c2 ?c3 ?c4 ?c5 ?_)
      case c2 => intro u hu; simp at hu; subst hu; rfl
      case c3 => unfold maxLen; omega
      case c4 => omega
      case c5 => exact L8.out.out.lt
      intro v' w9 hown' hgrow _
      obtain ⟨g9, cap9, rfl, hg9, hg9'⟩ := hown'.form (Nat.succ_pos _)
      obtain ⟨lnext, kout⟩ := L8.out.push hown' hgrow HVV.out
      have L10 := Lib.hid lnext
      clear hown' hgrow lnext
      obtain ⟨o0, o1, o2, o3, o4, o5⟩ := kout
      go_wp2_with fail
      go_roundw
      case rel => exact ⟨k + 1, _, by go_num, by omega, L10⟩
      case measure => simp [intOf]; omega
    · have hlti : ¬ (k : Int) < 400 + (L : Int) := by have := HMC.out; omega
      obtain rfl : k = MM := by omega
      obtain ⟨g, cap, rfl, RL, XL⟩ := HS.out.row (by omega) (by omega) HIN.out
      have RLAST := Lib.hid RL
      have HBL := Lib.hid (HB3.out.trans (HS.out.below.mono HB3.out.size))
      have KRL := Lib.hid (KR3.out.below HS.out.below)
      obtain ⟨o0, o1, o2, o3, o4, o5⟩ := HS.out.out
      clear RL
      go_wp2_with fail
      have E0 := Lib.hid (show EX w A W2.heap.size (w.heap.size + 2) b1 m1 c1 q1 j1 y1 b2 m2 c2 q2 j2 y2 L g cap k f x1 wk from ⟨XA3.out.under HS.out.below, XB3.out.under HS.out.below, HS.out.out, RLAST.out, KRL.out, HBL.out, HAO.out.1, HAO.out.2.1, XL, fun x hx hn => HAO.out.2.2.1 x hx hn, fun x hx hn => HAO.out.2.2.2 x hx hn, by omega⟩)
      clear HS RLAST KRL HBL
      by_cases hI1 : InfC y1
      · have HI1 := Lib.hid hI1
        refine (rfinite_any b1 m1 c1 y1 q1 j1 ⟨by omega, by omega⟩ ⟨by omega, by omega⟩ false (finB_inf HI1.out) _ E0.out.xa.row).mono ?_
        rintro e wxE1 ⟨rfl, hb⟩
        have E1 := Lib.hid (E0.out.call hb)
        clear hb
        clear hI1 g0 g1 g2 g3 g4 g5 d0 d1 d2 d3 d4 d5 o0 o1 o2 o3 o4 o5
        have E1d := Lib.hid (E1.out.call (Below.refl _ _).drew)
        have KSE5 := Lib.hid (show ∀ u, EX w A W2.heap.size (w.heap.size + 2) b1 m1 c1 q1 j1 y1 b2 m2 c2 q2 j2 y2 L g cap k f x1 u → (fun u => u.cell? ⟨A, 0, none⟩ = some (.slice b1 m1 c1) ∧ u.cell? ⟨A, 1, none⟩ = some (.int .i64 q1) ∧ u.cell? ⟨A, 2, none⟩ = some (.int .i64 j1) ∧ u.cell? ⟨A + 1, 0, none⟩ = some (.slice b2 m2 c2) ∧ u.cell? ⟨A + 1, 1, none⟩ = some (.int .i64 q2) ∧ u.cell? ⟨A + 1, 2, none⟩ = some (.int .i64 j2) ∧ Hid (EX w A W2.heap.size (w.heap.size + 2) b1 m1 c1 q1 j1 y1 b2 m2 c2 q2 j2 y2 L g cap k f x1 u)) u from fun u hu => ⟨hu.xa.box.c0, hu.xa.box.c1, hu.xa.box.c2, hu.xb.box.c0, hu.xb.box.c1, hu.xb.box.c2, hu⟩)
        go_upto_region 19 with fail
        refine wp_region_keeps (fun u => u.cell? ⟨A, 0, none⟩ = some (.slice b1 m1 c1) ∧ u.cell? ⟨A, 1, none⟩ = some (.int .i64 q1) ∧ u.cell? ⟨A, 2, none⟩ = some (.int .i64 j1) ∧ u.cell? ⟨A + 1, 0, none⟩ = some (.slice b2 m2 c2) ∧ u.cell? ⟨A + 1, 1, none⟩ = some (.int .i64 q2) ∧ u.cell? ⟨A + 1, 2, none⟩ = some (.int .i64 j2) ∧ Hid (EX w A W2.heap.size (w.heap.size + 2) b1 m1 c1 q1 j1 y1 b2 m2 c2 q2 j2 y2 L g cap k f x1 u)) 8 1 (by kernel_rfl) (by kernel_rfl) (KSE5.out _ E1d.out) (fun hHeld0 => ?_)
        refine wpAnyK_take (i := 0) (v := ?_) rfl (by kernel_rfl) (fun _ _ _ h => h) (Or.inl ⟨by rfl, ?_⟩) (by assumption) ?_
        rotate_left
        · (intro w hSw; (try dsimp only at hSw); go_simp; try with_reducible rfl)
        try simp only [Act.put, List.getElem_toArray, List.getElem_cons_zero, List.getElem_cons_succ, List.setIfInBounds_toArray, List.set_cons_zero, List.set_cons_succ]
        refine wpAnyK_take (i := 1) (v := ?_) rfl (by kernel_rfl) (fun _ _ _ h => h) (Or.inl ⟨by rfl, ?_⟩) (by assumption) ?_
        rotate_left
        · (intro w hSw; (try dsimp only at hSw); go_simp; try with_reducible rfl)
        try simp only [Act.put, List.getElem_toArray, List.getElem_cons_zero, List.getElem_cons_succ, List.setIfInBounds_toArray, List.set_cons_zero, List.set_cons_succ]
        refine wpAnyK_take (i := 2) (v := ?_) rfl (by kernel_rfl) (fun _ _ _ h => h) (Or.inl ⟨by rfl, ?_⟩) (by assumption) ?_
        rotate_left
        · (intro w hSw; (try dsimp only at hSw); go_simp; try with_reducible rfl)
        try simp only [Act.put, List.getElem_toArray, List.getElem_cons_zero, List.getElem_cons_succ, List.setIfInBounds_toArray, List.set_cons_zero, List.set_cons_succ]
        refine wpAnyK_take (i := 3) (v := ?_) rfl (by kernel_rfl) (fun _ _ _ h => h) (Or.inl ⟨by rfl, ?_⟩) (by assumption) ?_
        rotate_left
        · (intro w hSw; (try dsimp only at hSw); go_simp; try with_reducible rfl)
        try simp only [Act.put, List.getElem_toArray, List.getElem_cons_zero, List.getElem_cons_succ, List.setIfInBounds_toArray, List.set_cons_zero, List.set_cons_succ]
        refine wpAnyK_take (i := 4) (v := ?_) rfl (by kernel_rfl) (fun _ _ _ h => h) (Or.inl ⟨by rfl, ?_⟩) (by assumption) ?_
        rotate_left
        · (intro w hSw; (try dsimp only at hSw); go_simp; try with_reducible rfl)
        try simp only [Act.put, List.getElem_toArray, List.getElem_cons_zero, List.getElem_cons_succ, List.setIfInBounds_toArray, List.set_cons_zero, List.set_cons_succ]
        refine wpAnyK_take (i := 5) (v := ?_) rfl (by kernel_rfl) (fun _ _ _ h => h) (Or.inl ⟨by rfl, ?_⟩) (by assumption) ?_
        rotate_left
        · (intro w hSw; (try dsimp only at hSw); go_simp; try with_reducible rfl)
        try simp only [Act.put, List.getElem_toArray, List.getElem_cons_zero, List.getElem_cons_succ, List.setIfInBounds_toArray, List.set_cons_zero, List.set_cons_succ]
        refine wpAnyK_take (i := 6) (v := ?_) rfl (by kernel_rfl) (fun _ _ _ h => h) (Or.inl ⟨by rfl, ?_⟩) (by assumption) ?_
        rotate_left
        · (intro w hSw; (try dsimp only at hSw); go_simp; try with_reducible rfl)
        try simp only [Act.put, List.getElem_toArray, List.getElem_cons_zero, List.getElem_cons_succ, List.setIfInBounds_toArray, List.set_cons_zero, List.set_cons_succ]
        refine wpAnyK_take (i := 7) (v := ?_) rfl (by kernel_rfl) (fun _ _ _ h => h) (Or.inl ⟨by rfl, ?_⟩) (by assumption) ?_
        rotate_left
        · (intro w hSw; (try dsimp only at hSw); go_simp; try with_reducible rfl)
        try simp only [Act.put, List.getElem_toArray, List.getElem_cons_zero, List.getElem_cons_succ, List.setIfInBounds_toArray, List.set_cons_zero, List.set_cons_succ]
        refine wpAnyK_done (by kernel_rfl) ?_
        simp only [List.drop_succ_cons, List.drop_zero]
        clear hHeld0
        obtain ⟨ws, hws⟩ : ∃ W, (wxE1.setCell ⟨W2.heap.size, 2, none⟩ (.int .i64 x2)).drew = W := ⟨_, rfl⟩
        have E5 := Lib.hid (show EX w A W2.heap.size (w.heap.size + 2) b1 m1 c1 q1 j1 y1 b2 m2 c2 q2 j2 y2 L g cap k f x2 ws by rw [← hws]; exact (E1.out.put x2).call (Below.refl _ _).drew)
        have HWSS := Lib.hid hws
        obtain ⟨o0, o1, o2, o3, o4, o5⟩ := E1d.out.out
        clear hws
        go_upto_region 21 with fail
        try rw [HWSS.out]
        clear o0 o1 o2 o3 o4 o5
        have HRAW := Lib.hid (show RawE (firsts f k) L x2 (eMin y1 q1 j1 y2 q2 j2) from by have h := min_raw GY.out.1 GY.out.2 HLC.out hL120 (fun h _ => absurd HI1.out h); rw [HF.out, HMC.out] at h; unfold incMin at h; rw [if_pos HI1.out, HK2.out.1, HK2.out.2] at h; exact h)
        have RLAST := Lib.hid E5.out.row
        have HBL := Lib.hid E5.out.below
        have KRL := Lib.hid E5.out.res
        obtain ⟨o0, o1, o2, o3, o4, o5⟩ := E5.out.out
        go_wp2_with fail
        clear o0 o1 o2 o3 o4 o5
        refine (rmade_ok _ _ _ _ _ _ HRAW.out _ RLAST.out).mono ?_
        rintro e v9 ⟨hb, ⟨a9, n9, cap9, z9, p9, i9, rfl, hr, hf, hx⟩ | ⟨rfl, hno⟩⟩
        · have HP := Lib.hid (GivesE.post (E := eMin z1 p1 i1 z2 p2 i2) (b := w.heap.size + 2) HBL.out (by omega) KRL.out.lt hb hr hx (by rw [← HEE.out]; exact hf))
          obtain ⟨r0, r1, r2, r3, r4, r5⟩ := KRL.out.below hb
          clear hb hr hf hx
          go_wp2_with fail
          exact bodyPost_ret (v := .tuple #[curV a9 n9 cap9 p9 i9, .int .i64 0]) (by simp [results, Try.results130, go_sem, r0, r1, r2]) rfl HP.out
        · have HP := Lib.hid (GivesE.postNo (E := eMin z1 p1 i1 z2 p2 i2) (b := w.heap.size + 2) HBL.out (by omega) hb (by rw [← HEE.out]; exact hno))
          obtain ⟨r0, r1, r2, r3, r4, r5⟩ := KRL.out.below hb
          clear hb hno
          go_wp2_with fail
          exact bodyPost_ret (v := .tuple #[curV none 0 0 0 0, .int .i64 3]) (by simp [results, Try.results130, go_sem, r0, r1, r2]) rfl HP.out
      · have HI1 := Lib.hid hI1
        refine (rfinite_any b1 m1 c1 y1 q1 j1 ⟨by omega, by omega⟩ ⟨by omega, by omega⟩ true (finB_fin ((okC_iff y1 q1 j1).2 GY.out.1) HI1.out) _ E0.out.xa.row).mono ?_
        rintro e wxE1 ⟨rfl, hb⟩
        have E1 := Lib.hid (E0.out.call hb)
        clear hb
        clear g0 g1 g2 g3 g4 g5 d0 d1 d2 d3 d4 d5 o0 o1 o2 o3 o4 o5
        obtain ⟨g0, g1, g2, g3, g4, g5⟩ := E1.out.xa.box
        obtain ⟨d0, d1, d2, d3, d4, d5⟩ := E1.out.xb.box
        go_wp2_with fail
        clear g0 g1 g2 g3 g4 g5 d0 d1 d2 d3 d4 d5
        by_cases hI2 : InfC y2
        · have HI2 := Lib.hid hI2
          refine (rfinite_any b2 m2 c2 y2 q2 j2 ⟨by omega, by omega⟩ ⟨by omega, by omega⟩ false (finB_inf HI2.out) _ E1.out.xb.row).mono ?_
          rintro e wxE2 ⟨rfl, hb⟩
          have E2 := Lib.hid (E1.out.call hb)
          clear hb
          clear hI1 hI2
          go_upto_region 21 with fail
          have HRAW := Lib.hid (show RawE (firsts f k) L x1 (eMin y1 q1 j1 y2 q2 j2) from by have h := min_raw GY.out.1 GY.out.2 HLC.out hL120 (fun _ h => absurd HI2.out h); rw [HF.out, HMC.out] at h; unfold incMin at h; rw [if_neg HI1.out, if_pos HI2.out, HK1.out.1, HK1.out.2] at h; exact h)
          have RLAST := Lib.hid E2.out.row
          have HBL := Lib.hid E2.out.below
          have KRL := Lib.hid E2.out.res
          obtain ⟨o0, o1, o2, o3, o4, o5⟩ := E2.out.out
          go_wp2_with fail
          clear o0 o1 o2 o3 o4 o5
          refine (rmade_ok _ _ _ _ _ _ HRAW.out _ RLAST.out).mono ?_
          rintro e v9 ⟨hb, ⟨a9, n9, cap9, z9, p9, i9, rfl, hr, hf, hx⟩ | ⟨rfl, hno⟩⟩
          · have HP := Lib.hid (GivesE.post (E := eMin z1 p1 i1 z2 p2 i2) (b := w.heap.size + 2) HBL.out (by omega) KRL.out.lt hb hr hx (by rw [← HEE.out]; exact hf))
            obtain ⟨r0, r1, r2, r3, r4, r5⟩ := KRL.out.below hb
            clear hb hr hf hx
            go_wp2_with fail
            exact bodyPost_ret (v := .tuple #[curV a9 n9 cap9 p9 i9, .int .i64 0]) (by simp [results, Try.results130, go_sem, r0, r1, r2]) rfl HP.out
          · have HP := Lib.hid (GivesE.postNo (E := eMin z1 p1 i1 z2 p2 i2) (b := w.heap.size + 2) HBL.out (by omega) hb (by rw [← HEE.out]; exact hno))
            obtain ⟨r0, r1, r2, r3, r4, r5⟩ := KRL.out.below hb
            clear hb hno
            go_wp2_with fail
            exact bodyPost_ret (v := .tuple #[curV none 0 0 0 0, .int .i64 3]) (by simp [results, Try.results130, go_sem, r0, r1, r2]) rfl HP.out
        · have HI2 := Lib.hid hI2
          refine (rfinite_any b2 m2 c2 y2 q2 j2 ⟨by omega, by omega⟩ ⟨by omega, by omega⟩ true (finB_fin ((okC_iff y2 q2 j2).2 GY.out.2) HI2.out) _ E1.out.xb.row).mono ?_
          rintro e wxE2 ⟨rfl, hb⟩
          have E2 := Lib.hid (E1.out.call hb)
          clear hb
          obtain ⟨g0, g1, g2, g3, g4, g5⟩ := E2.out.xa.box
          obtain ⟨d0, d1, d2, d3, d4, d5⟩ := E2.out.xb.box
          go_wp2_with fail
          clear g0 g1 g2 g3 g4 g5 d0 d1 d2 d3 d4 d5
          have hd1 : -128849018880 ≤ x1 - x2 ∧ x1 - x2 ≤ 128849018880 := by omega
          obtain ⟨dd, hdd⟩ : ∃ d, x1 - x2 = d := ⟨_, rfl⟩
          have HDD := Lib.hid hdd
          refine (rslopes b1 m1 c1 q1 j1 b2 m2 c2 q2 j2 L k1 k2 x1 x2 hkq1 hkz1 hkn1 hkd1 hxw1 hxx1 hkw1 hkq2 hkz2 hkn2 hkd2 hxw2 hxx2 hkw2 ⟨hxl1, hxu1⟩ ⟨hxl2, hxu2⟩ _).mono ?_
          rintro e wz ⟨rfl, hb⟩
          have E3 := Lib.hid (E2.out.call hb)
          clear hb
          rw [hdd]
          rw [hdd] at hd1
          obtain ⟨hd1a, hd1b⟩ := hd1
          clear hdd
          go_wp2_with fail
          go_loopw [15] (fun sl wx => ∃ t : Nat, sl = .int .i64 t ∧ 400 ≤ t ∧ t ≤ 400 + L ∧ Hid (∀ s, 400 ≤ s → s < t → ¬ (dd < 0 ∧ 0 < atC y1 q1 j1 s - atC y2 q2 j2 s ∨ 0 < dd ∧ atC y1 q1 j1 s - atC y2 q2 j2 s < 0)) ∧ Hid (EX w A W2.heap.size (w.heap.size + 2) b1 m1 c1 q1 j1 y1 b2 m2 c2 q2 j2 y2 L g cap k f x1 wx)) (fun sl _ => 400 + L - (intOf sl).toNat)
          case atStart => exact ⟨400, by go_num, Nat.le_refl _, by omega, fun s h1 h2 => by omega, E3⟩
          case round =>
            obtain ⟨t, rfl, ht1, ht2, HPS, ET⟩ := hrel
            obtain ⟨wt, rfl⟩ : ∃ u : World, u = wr := ⟨_, rfl⟩
            by_cases hlt2 : t < 400 + L
            · have hlti2 : (t : Int) < 400 + (L : Int) := by omega
              obtain ⟨vx, hvx⟩ : ∃ v, atC y1 q1 j1 t = v := ⟨_, rfl⟩
              obtain ⟨vy, hvy⟩ : ∃ v, atC y2 q2 j2 t = v := ⟨_, rfl⟩
              have bx := at_bd GY.out.1 (t := t) (by omega)
              have by' := at_bd GY.out.2 (t := t) (by omega)
              rw [hvx] at bx
              rw [hvy] at by'
              have bxf := GY.out.1.bd hI1 t
              have byf := GY.out.2.bd hI2 t
              rw [hvx] at bxf
              rw [hvy] at byf
              have HV := Lib.hid (And.intro hvx hvy)
              have hsubw : IntKind.i64.wrap (vx - vy) = vx - vy := IntWalk.i64_in _ ⟨by omega, by omega⟩
              have ET0 := Lib.hid (ET.out.call (Below.refl _ _).drew)
              have KS13 := Lib.hid (show ∀ u, EX w A W2.heap.size (w.heap.size + 2) b1 m1 c1 q1 j1 y1 b2 m2 c2 q2 j2 y2 L g cap k f x1 u → (fun u => u.cell? ⟨A, 0, none⟩ = some (.slice b1 m1 c1) ∧ u.cell? ⟨A, 1, none⟩ = some (.int .i64 q1) ∧ u.cell? ⟨A, 2, none⟩ = some (.int .i64 j1) ∧ u.cell? ⟨A + 1, 0, none⟩ = some (.slice b2 m2 c2) ∧ u.cell? ⟨A + 1, 1, none⟩ = some (.int .i64 q2) ∧ u.cell? ⟨A + 1, 2, none⟩ = some (.int .i64 j2) ∧ Hid (EX w A W2.heap.size (w.heap.size + 2) b1 m1 c1 q1 j1 y1 b2 m2 c2 q2 j2 y2 L g cap k f x1 u)) u from fun u hu => ⟨hu.xa.box.c0, hu.xa.box.c1, hu.xa.box.c2, hu.xb.box.c0, hu.xb.box.c1, hu.xb.box.c2, hu⟩)
              clear hvx hvy bx by'
              go_upto_region 13 with fail
              refine wp_region_keeps (fun u => u.cell? ⟨A, 0, none⟩ = some (.slice b1 m1 c1) ∧ u.cell? ⟨A, 1, none⟩ = some (.int .i64 q1) ∧ u.cell? ⟨A, 2, none⟩ = some (.int .i64 j1) ∧ u.cell? ⟨A + 1, 0, none⟩ = some (.slice b2 m2 c2) ∧ u.cell? ⟨A + 1, 1, none⟩ = some (.int .i64 q2) ∧ u.cell? ⟨A + 1, 2, none⟩ = some (.int .i64 j2) ∧ Hid (EX w A W2.heap.size (w.heap.size + 2) b1 m1 c1 q1 j1 y1 b2 m2 c2 q2 j2 y2 L g cap k f x1 u)) 7 1 (by kernel_rfl) (by kernel_rfl) (KS13.out _ ET0.out) (fun hHeld0 => ?_)
              refine wpAnyK_take (i := 0) (v := ?_) rfl (by kernel_rfl) (fun _ _ _ h => h) (Or.inl ⟨by rfl, ?_⟩) (by assumption) ?_
              rotate_left
              · (intro w hSw; (try dsimp only at hSw); go_simp; try with_reducible rfl)
              try simp only [Act.put, List.getElem_toArray, List.getElem_cons_zero, List.getElem_cons_succ, List.setIfInBounds_toArray, List.set_cons_zero, List.set_cons_succ]
              refine wpAnyK_take (i := 1) (v := ?_) rfl (by kernel_rfl) (fun _ _ _ h => h) (Or.inl ⟨by rfl, ?_⟩) (by assumption) ?_
              rotate_left
              · (intro w hSw; (try dsimp only at hSw); go_simp; try with_reducible rfl)
              try simp only [Act.put, List.getElem_toArray, List.getElem_cons_zero, List.getElem_cons_succ, List.setIfInBounds_toArray, List.set_cons_zero, List.set_cons_succ]
              refine wpAnyK_take (i := 3) (v := ?_) rfl (by kernel_rfl) (fun _ _ _ h => h) (Or.inl ⟨by rfl, ?_⟩) (by assumption) ?_
              rotate_left
              · (intro w hSw; (try dsimp only at hSw); go_simp; try with_reducible rfl)
              try simp only [Act.put, List.getElem_toArray, List.getElem_cons_zero, List.getElem_cons_succ, List.setIfInBounds_toArray, List.set_cons_zero, List.set_cons_succ]
              refine wpAnyK_take (i := 4) (v := ?_) rfl (by kernel_rfl) (fun _ _ _ h => h) (Or.inl ⟨by rfl, ?_⟩) (by assumption) ?_
              rotate_left
              · (intro w hSw; (try dsimp only at hSw); go_simp; try with_reducible rfl)
              try simp only [Act.put, List.getElem_toArray, List.getElem_cons_zero, List.getElem_cons_succ, List.setIfInBounds_toArray, List.set_cons_zero, List.set_cons_succ]
              refine wpAnyK_step (i := 2) rfl (by kernel_rfl) (fun K hK => ?_)
              go_simp
              with_reducible refine (rat_at b1 m1 c1 y1 q1 j1 GY.out.1 t t rfl (by omega) vx HV.out.1 _ ET0.out.xa.row).mono ?_
              rintro e u8 ⟨rfl, hb⟩
              have ET1 := Lib.hid (ET0.out.call hb)
              clear hb
              refine hK.out _ _ (KS13.out _ ET1.out) (fun hHeld1 => ?_)
              clear hK K hHeld0
              try simp only [Act.put, List.getElem_toArray, List.getElem_cons_zero, List.getElem_cons_succ, List.setIfInBounds_toArray, List.set_cons_zero, List.set_cons_succ]
              refine wpAnyK_step (i := 5) rfl (by kernel_rfl) (fun K hK => ?_)
              go_simp
              with_reducible refine (rat_at b2 m2 c2 y2 q2 j2 GY.out.2 t t rfl (by omega) vy HV.out.2 _ ET1.out.xb.row).mono ?_
              rintro e u9 ⟨rfl, hb⟩
              have ET2 := Lib.hid (ET1.out.call hb)
              clear hb
              refine hK.out _ _ (KS13.out _ ET2.out) (fun hHeld2 => ?_)
              clear hK K hHeld1
              try simp only [Act.put, List.getElem_toArray, List.getElem_cons_zero, List.getElem_cons_succ, List.setIfInBounds_toArray, List.set_cons_zero, List.set_cons_succ]
              refine wpAnyK_take (i := 6) (v := ?_) rfl (by kernel_rfl) (fun _ _ _ h => h) (Or.inl ⟨by rfl, ?_⟩) (by assumption) ?_
              rotate_left
              · (intro w hSw; (try dsimp only at hSw); go_simp; try with_reducible rfl)
              try simp only [Act.put, List.getElem_toArray, List.getElem_cons_zero, List.getElem_cons_succ, List.setIfInBounds_toArray, List.set_cons_zero, List.set_cons_succ]
              refine wpAnyK_done (by kernel_rfl) ?_
              simp only [List.drop_succ_cons, List.drop_zero]
              clear hHeld2
              rcases (show (dd < 0 ∧ 0 < vx - vy) ∨ (0 < dd ∧ vx - vy < 0) ∨ (dd < 0 ∧ ¬ 0 < vx - vy) ∨ (0 < dd ∧ ¬ vx - vy < 0) ∨ dd = 0 by omega) with ⟨cc1, cc2⟩ | ⟨cc1, cc2⟩ | ⟨cc1, cc2⟩ | ⟨cc1, cc2⟩ | cc1
              · have t1 : decide (dd < 0) = true := decide_eq_true cc1
                have t2 : decide (0 < vx - vy) = true := decide_eq_true cc2
                have hdx := HDD.out
                have HNO := Lib.hid (show ¬ ECan (eMin y1 q1 j1 y2 q2 j2) from (ext_no GY.out.1 GY.out.2 HLC.out hI1 hI2 (u := t) ht1 (by rw [HK1.out.1, HK1.out.2, HK2.out.1, HK2.out.2, HV.out.1, HV.out.2]; omega)).1)
                have HP := Lib.hid (GivesE.postNo (E := eMin z1 p1 i1 z2 p2 i2) (b := w.heap.size + 2) ET2.out.below (by omega) (Below.refl _ _) (by rw [← HEE.out]; exact HNO.out))
                obtain ⟨r0, r1, r2, r3, r4, r5⟩ := ET2.out.res
                go_wp2_with fail
                exact bodyPost_ret (v := .tuple #[curV none 0 0 0 0, .int .i64 3]) (by simp [results, Try.results130, go_sem, r0, r1, r2]) rfl HP.out
              · have cc3 : ¬ dd < 0 := by omega
                have t1 : decide (dd < 0) = false := decide_eq_false cc3
                have t2 : decide (0 < dd) = true := decide_eq_true cc1
                have t3 : decide (vx - vy < 0) = true := decide_eq_true cc2
                have hdx := HDD.out
                have HNO := Lib.hid (show ¬ ECan (eMin y1 q1 j1 y2 q2 j2) from (ext_no GY.out.1 GY.out.2 HLC.out hI1 hI2 (u := t) ht1 (by rw [HK1.out.1, HK1.out.2, HK2.out.1, HK2.out.2, HV.out.1, HV.out.2]; omega)).1)
                have HP := Lib.hid (GivesE.postNo (E := eMin z1 p1 i1 z2 p2 i2) (b := w.heap.size + 2) ET2.out.below (by omega) (Below.refl _ _) (by rw [← HEE.out]; exact HNO.out))
                obtain ⟨r0, r1, r2, r3, r4, r5⟩ := ET2.out.res
                go_wp2_with fail
                exact bodyPost_ret (v := .tuple #[curV none 0 0 0 0, .int .i64 3]) (by simp [results, Try.results130, go_sem, r0, r1, r2]) rfl HP.out
              · have t1 : decide (dd < 0) = true := decide_eq_true cc1
                have t2 : decide (0 < vx - vy) = false := decide_eq_false cc2
                have cc3 : ¬ 0 < dd := by omega
                have t3 : decide (0 < dd) = false := decide_eq_false cc3
                go_wp2_with fail
                go_roundw
                case rel => exact ⟨t + 1, by go_num, by omega, by omega, fun s h1 h2 => by
                  rcases Nat.lt_or_ge s t with h | h
                  · exact HPS.out s h1 h
                  · have e : s = t := by omega
                    subst e
                    rw [HV.out.1, HV.out.2]; omega, ET2⟩
                case measure => simp [intOf]; omega
              · have cc3 : ¬ dd < 0 := by omega
                have t1 : decide (dd < 0) = false := decide_eq_false cc3
                have t2 : decide (0 < dd) = true := decide_eq_true cc1
                have t3 : decide (vx - vy < 0) = false := decide_eq_false cc2
                go_wp2_with fail
                go_roundw
                case rel => exact ⟨t + 1, by go_num, by omega, by omega, fun s h1 h2 => by
                  rcases Nat.lt_or_ge s t with h | h
                  · exact HPS.out s h1 h
                  · have e : s = t := by omega
                    subst e
                    rw [HV.out.1, HV.out.2]; omega, ET2⟩
                case measure => simp [intOf]; omega
              · have cc3 : ¬ dd < 0 := by omega
                have t1 : decide (dd < 0) = false := decide_eq_false cc3
                have cc4 : ¬ 0 < dd := by omega
                have t2 : decide (0 < dd) = false := decide_eq_false cc4
                have HC1 := Lib.hid cc1
                clear cc1
                go_wp2_with fail
                go_roundw
                case rel => exact ⟨t + 1, by go_num, by omega, by omega, fun s h1 h2 => by
                  rcases Nat.lt_or_ge s t with h | h
                  · exact HPS.out s h1 h
                  · have e : s = t := by omega
                    subst e
                    rw [HV.out.1, HV.out.2]; have := HC1.out; omega, ET2⟩
                case measure => simp [intOf]; omega
            · obtain rfl : t = 400 + L := by omega
              have hlti2 : ¬ (((400 + L : Nat) : Int) < 400 + (L : Int)) := by omega
              have HPA := Lib.hid (show Passed (atC y1 q1 j1) (atC y2 q2 j2) L (j1 * ((L / q1 : Nat) : Int) - j2 * ((L / q2 : Nat) : Int)) by
                rw [HK1.out.1, HK1.out.2, HK2.out.1, HK2.out.2, HDD.out]; exact HPS.out)
              have HRX := Lib.hid (show RawE (firsts f k) L (incMin y1 q1 j1 y2 q2 j2 L) (eMin y1 q1 j1 y2 q2 j2) by
                have h := min_raw GY.out.1 GY.out.2 HLC.out hL120 (fun _ _ => HPA.out)
                rw [HF.out, HMC.out] at h; exact h)
              have HIV := Lib.hid (show incMin y1 q1 j1 y2 q2 j2 L = if 0 < dd then x2 else x1 by
                unfold incMin; rw [if_neg hI1, if_neg hI2, HK1.out.1, HK1.out.2, HK2.out.1, HK2.out.2, HDD.out])
              by_cases cc1 : 0 < dd
              · have t1 : decide (0 < dd) = true := decide_eq_true cc1
                have ETd := Lib.hid (ET.out.call (Below.refl _ _).drew)
                have KSE5 := Lib.hid (show ∀ u, EX w A W2.heap.size (w.heap.size + 2) b1 m1 c1 q1 j1 y1 b2 m2 c2 q2 j2 y2 L g cap k f x1 u → (fun u => u.cell? ⟨A, 0, none⟩ = some (.slice b1 m1 c1) ∧ u.cell? ⟨A, 1, none⟩ = some (.int .i64 q1) ∧ u.cell? ⟨A, 2, none⟩ = some (.int .i64 j1) ∧ u.cell? ⟨A + 1, 0, none⟩ = some (.slice b2 m2 c2) ∧ u.cell? ⟨A + 1, 1, none⟩ = some (.int .i64 q2) ∧ u.cell? ⟨A + 1, 2, none⟩ = some (.int .i64 j2) ∧ Hid (EX w A W2.heap.size (w.heap.size + 2) b1 m1 c1 q1 j1 y1 b2 m2 c2 q2 j2 y2 L g cap k f x1 u)) u from fun u hu => ⟨hu.xa.box.c0, hu.xa.box.c1, hu.xa.box.c2, hu.xb.box.c0, hu.xb.box.c1, hu.xb.box.c2, hu⟩)
                go_upto_region 17 with fail
                refine wp_region_keeps (fun u => u.cell? ⟨A, 0, none⟩ = some (.slice b1 m1 c1) ∧ u.cell? ⟨A, 1, none⟩ = some (.int .i64 q1) ∧ u.cell? ⟨A, 2, none⟩ = some (.int .i64 j1) ∧ u.cell? ⟨A + 1, 0, none⟩ = some (.slice b2 m2 c2) ∧ u.cell? ⟨A + 1, 1, none⟩ = some (.int .i64 q2) ∧ u.cell? ⟨A + 1, 2, none⟩ = some (.int .i64 j2) ∧ Hid (EX w A W2.heap.size (w.heap.size + 2) b1 m1 c1 q1 j1 y1 b2 m2 c2 q2 j2 y2 L g cap k f x1 u)) 8 1 (by kernel_rfl) (by kernel_rfl) (KSE5.out _ ETd.out) (fun hHeld0 => ?_)
                refine wpAnyK_take (i := 0) (v := ?_) rfl (by kernel_rfl) (fun _ _ _ h => h) (Or.inl ⟨by rfl, ?_⟩) (by assumption) ?_
                rotate_left
                · (intro w hSw; (try dsimp only at hSw); go_simp; try with_reducible rfl)
                try simp only [Act.put, List.getElem_toArray, List.getElem_cons_zero, List.getElem_cons_succ, List.setIfInBounds_toArray, List.set_cons_zero, List.set_cons_succ]
                refine wpAnyK_take (i := 1) (v := ?_) rfl (by kernel_rfl) (fun _ _ _ h => h) (Or.inl ⟨by rfl, ?_⟩) (by assumption) ?_
                rotate_left
                · (intro w hSw; (try dsimp only at hSw); go_simp; try with_reducible rfl)
                try simp only [Act.put, List.getElem_toArray, List.getElem_cons_zero, List.getElem_cons_succ, List.setIfInBounds_toArray, List.set_cons_zero, List.set_cons_succ]
                refine wpAnyK_take (i := 2) (v := ?_) rfl (by kernel_rfl) (fun _ _ _ h => h) (Or.inl ⟨by rfl, ?_⟩) (by assumption) ?_
                rotate_left
                · (intro w hSw; (try dsimp only at hSw); go_simp; try with_reducible rfl)
                try simp only [Act.put, List.getElem_toArray, List.getElem_cons_zero, List.getElem_cons_succ, List.setIfInBounds_toArray, List.set_cons_zero, List.set_cons_succ]
                refine wpAnyK_take (i := 3) (v := ?_) rfl (by kernel_rfl) (fun _ _ _ h => h) (Or.inl ⟨by rfl, ?_⟩) (by assumption) ?_
                rotate_left
                · (intro w hSw; (try dsimp only at hSw); go_simp; try with_reducible rfl)
                try simp only [Act.put, List.getElem_toArray, List.getElem_cons_zero, List.getElem_cons_succ, List.setIfInBounds_toArray, List.set_cons_zero, List.set_cons_succ]
                refine wpAnyK_take (i := 4) (v := ?_) rfl (by kernel_rfl) (fun _ _ _ h => h) (Or.inl ⟨by rfl, ?_⟩) (by assumption) ?_
                rotate_left
                · (intro w hSw; (try dsimp only at hSw); go_simp; try with_reducible rfl)
                try simp only [Act.put, List.getElem_toArray, List.getElem_cons_zero, List.getElem_cons_succ, List.setIfInBounds_toArray, List.set_cons_zero, List.set_cons_succ]
                refine wpAnyK_take (i := 5) (v := ?_) rfl (by kernel_rfl) (fun _ _ _ h => h) (Or.inl ⟨by rfl, ?_⟩) (by assumption) ?_
                rotate_left
                · (intro w hSw; (try dsimp only at hSw); go_simp; try with_reducible rfl)
                try simp only [Act.put, List.getElem_toArray, List.getElem_cons_zero, List.getElem_cons_succ, List.setIfInBounds_toArray, List.set_cons_zero, List.set_cons_succ]
                refine wpAnyK_take (i := 6) (v := ?_) rfl (by kernel_rfl) (fun _ _ _ h => h) (Or.inl ⟨by rfl, ?_⟩) (by assumption) ?_
                rotate_left
                · (intro w hSw; (try dsimp only at hSw); go_simp; try with_reducible rfl)
                try simp only [Act.put, List.getElem_toArray, List.getElem_cons_zero, List.getElem_cons_succ, List.setIfInBounds_toArray, List.set_cons_zero, List.set_cons_succ]
                refine wpAnyK_take (i := 7) (v := ?_) rfl (by kernel_rfl) (fun _ _ _ h => h) (Or.inl ⟨by rfl, ?_⟩) (by assumption) ?_
                rotate_left
                · (intro w hSw; (try dsimp only at hSw); go_simp; try with_reducible rfl)
                try simp only [Act.put, List.getElem_toArray, List.getElem_cons_zero, List.getElem_cons_succ, List.setIfInBounds_toArray, List.set_cons_zero, List.set_cons_succ]
                refine wpAnyK_done (by kernel_rfl) ?_
                simp only [List.drop_succ_cons, List.drop_zero]
                clear hHeld0
                obtain ⟨ws, hws⟩ : ∃ W, (wt.setCell ⟨W2.heap.size, 2, none⟩ (.int .i64 x2)).drew = W := ⟨_, rfl⟩
                have E5 := Lib.hid (show EX w A W2.heap.size (w.heap.size + 2) b1 m1 c1 q1 j1 y1 b2 m2 c2 q2 j2 y2 L g cap k f x2 ws by rw [← hws]; exact (ET.out.put x2).call (Below.refl _ _).drew)
                have HWSS := Lib.hid hws
                obtain ⟨o0, o1, o2, o3, o4, o5⟩ := ETd.out.out
                clear hws
                go_upto_region 21 with fail
                try rw [HWSS.out]
                clear o0 o1 o2 o3 o4 o5
                have HRAW := Lib.hid (show RawE (firsts f k) L x2 (eMin y1 q1 j1 y2 q2 j2) from by have h := HRX.out; rw [HIV.out, if_pos cc1] at h; exact h)
                have RLAST := Lib.hid E5.out.row
                have HBL := Lib.hid E5.out.below
                have KRL := Lib.hid E5.out.res
                obtain ⟨o0, o1, o2, o3, o4, o5⟩ := E5.out.out
                go_wp2_with fail
                clear o0 o1 o2 o3 o4 o5
                refine (rmade_ok _ _ _ _ _ _ HRAW.out _ RLAST.out).mono ?_
                rintro e v9 ⟨hb, ⟨a9, n9, cap9, z9, p9, i9, rfl, hr, hf, hx⟩ | ⟨rfl, hno⟩⟩
                · have HP := Lib.hid (GivesE.post (E := eMin z1 p1 i1 z2 p2 i2) (b := w.heap.size + 2) HBL.out (by omega) KRL.out.lt hb hr hx (by rw [← HEE.out]; exact hf))
                  obtain ⟨r0, r1, r2, r3, r4, r5⟩ := KRL.out.below hb
                  clear hb hr hf hx
                  go_wp2_with fail
                  exact bodyPost_ret (v := .tuple #[curV a9 n9 cap9 p9 i9, .int .i64 0]) (by simp [results, Try.results130, go_sem, r0, r1, r2]) rfl HP.out
                · have HP := Lib.hid (GivesE.postNo (E := eMin z1 p1 i1 z2 p2 i2) (b := w.heap.size + 2) HBL.out (by omega) hb (by rw [← HEE.out]; exact hno))
                  obtain ⟨r0, r1, r2, r3, r4, r5⟩ := KRL.out.below hb
                  clear hb hno
                  go_wp2_with fail
                  exact bodyPost_ret (v := .tuple #[curV none 0 0 0 0, .int .i64 3]) (by simp [results, Try.results130, go_sem, r0, r1, r2]) rfl HP.out
              · have t1 : decide (0 < dd) = false := decide_eq_false cc1
                have HRAW := Lib.hid (show RawE (firsts f k) L x1 (eMin y1 q1 j1 y2 q2 j2) from by have h := HRX.out; rw [HIV.out, if_neg cc1] at h; exact h)
                have RLAST := Lib.hid ET.out.row
                have HBL := Lib.hid ET.out.below
                have KRL := Lib.hid ET.out.res
                obtain ⟨o0, o1, o2, o3, o4, o5⟩ := ET.out.out
                go_wp2_with fail
                clear o0 o1 o2 o3 o4 o5
                refine (rmade_ok _ _ _ _ _ _ HRAW.out _ RLAST.out).mono ?_
                rintro e v9 ⟨hb, ⟨a9, n9, cap9, z9, p9, i9, rfl, hr, hf, hx⟩ | ⟨rfl, hno⟩⟩
                · have HP := Lib.hid (GivesE.post (E := eMin z1 p1 i1 z2 p2 i2) (b := w.heap.size + 2) HBL.out (by omega) KRL.out.lt hb hr hx (by rw [← HEE.out]; exact hf))
                  obtain ⟨r0, r1, r2, r3, r4, r5⟩ := KRL.out.below hb
                  clear hb hr hf hx
                  go_wp2_with fail
                  exact bodyPost_ret (v := .tuple #[curV a9 n9 cap9 p9 i9, .int .i64 0]) (by simp [results, Try.results130, go_sem, r0, r1, r2]) rfl HP.out
                · have HP := Lib.hid (GivesE.postNo (E := eMin z1 p1 i1 z2 p2 i2) (b := w.heap.size + 2) HBL.out (by omega) hb (by rw [← HEE.out]; exact hno))
                  obtain ⟨r0, r1, r2, r3, r4, r5⟩ := KRL.out.below hb
                  clear hb hno
                  go_wp2_with fail
                  exact bodyPost_ret (v := .tuple #[curV none 0 0 0 0, .int .i64 3]) (by simp [results, Try.results130, go_sem, r0, r1, r2]) rfl HP.out

set_option maxRecDepth 100000 in
set_option maxHeartbeats 1600000 in
theorem rmin_ok (a1 : Option Addr) (n1 cap1 : Nat) (z1 : List Int) (p1 : Nat) (i1 : Int) (g1 : Good z1 p1 i1) (a2 : Option Addr) (n2 cap2 : Nat) (z2 : List Int) (p2 : Nat) (i2 : Int) (g2 : Good z2 p2 i2) (L : Nat) (hL : LcmN z1 p1 i1 z2 p2 i2 L) (hL2 : L ≤ 120) (w : World) (h1 : RowZ w a1 n1 cap1 z1) (h2 : RowZ w a2 n2 cap2 z2) :
    Calls Try.prog 48 #[curV a1 n1 cap1 p1 i1, curV a2 n2 cap2 p2 i2] w (GivesE (eMin z1 p1 i1 z2 p2 i2) w) := by
  have HX := Lib.hid (show ∀ u, RowZ u a1 n1 cap1 z1 → RowZ u a2 n2 cap2 z2 → Calls Try.prog 130 #[curV a1 n1 cap1 p1 i1, curV a2 n2 cap2 p2 i2, .bool true] u (GivesE (eMin z1 p1 i1 z2 p2 i2) u) from fun u r1 r2 => rext_min a1 n1 cap1 z1 p1 i1 g1 a2 n2 cap2 z2 p2 i2 g2 L hL hL2 u r1 r2)
  obtain ⟨W, hW⟩ : ∃ W, ((w.alloc (.cells #[.slice a1 n1 cap1, .int .i64 p1, .int .i64 i1] 38)).alloc (.cells #[.slice a2 n2 cap2, .int .i64 p2, .int .i64 i2] 38)).alloc (.cells #[.slice none 0 0, .int .i64 0, .int .i64 0] 38) = W := ⟨_, rfl⟩
  obtain ⟨⟨hB, hWs⟩, k1, k2, kr⟩ := boxesB w a1 n1 cap1 p1 i1 a2 n2 cap2 p2 i2 hW
  have HB := Lib.hid hB
  have KR := Lib.hid kr
  have HR := Lib.hid (And.intro (h1.under hB) (h2.under hB))
  have HW := Lib.hid hW
  obtain ⟨m0, m1, m2, m3, m4, m5⟩ := k1
  obtain ⟨u0, u1, u2, u3, u4, u5⟩ := k2
  clear h1 h2 hB kr hW hWs g1 g2 hL
  go_enter Try.func48, Try.ntmps48
  go_upto_region 1 with fail
  try rw [HW.out]
  go_wp2_with fail
  clear m0 m1 m2 m3 m4 m5 u0 u1 u2 u3 u4 u5
  refine (HX.out _ HR.out.1 HR.out.2).mono ?_
  rintro e v2 ⟨hb2, ⟨a5, n5, cap5, zs5, p5, inc5, rfl, hr5, hf5, hx5⟩ | ⟨rfl, hno5⟩⟩
  · have HP := Lib.hid (GivesE.post (b := w.heap.size + 2) HB.out (by omega) KR.out.lt hb2 hr5 hx5 hf5)
    obtain ⟨d0, d1, d2, e0, e1, e2⟩ := KR.out.below hb2
    clear hb2 hr5 hf5 hx5
    go_wp2_with fail
    exact bodyPost_ret (v := .tuple #[curV a5 n5 cap5 p5 inc5, .int .i64 0]) (by simp [results, Try.results48, go_sem, d0, d1, d2]) rfl HP.out
  · have HP := Lib.hid (GivesE.postNo (b := w.heap.size + 2) HB.out (by omega) hb2 hno5)
    obtain ⟨d0, d1, d2, e0, e1, e2⟩ := KR.out.below hb2
    clear hb2 hno5
    go_wp2_with fail
    exact bodyPost_ret (v := .tuple #[curV none 0 0 0 0, .int .i64 3]) (by simp [results, Try.results48, go_sem, d0, d1, d2]) rfl HP.out

end Go.Proofs.Ytjipmkgnndldpaa

namespace Go.Proofs.Ytjipmkgnndldpaa
open Go.RowKit
set_option linter.unusedSimpArgs false
set_option linter.unusedVariables false

section
variable (a1 : Option Addr) (n1 cap1 : Nat) (z1 : List Int) (p1 : Nat) (i1 : Int) (g1 : Good z1 p1 i1) (a2 : Option Addr) (n2 cap2 : Nat) (z2 : List Int) (p2 : Nat) (i2 : Int) (g2 : Good z2 p2 i2) (h1 : Day (eC z1 p1 i1)) (h2 : Day (eC z2 p2 i2))
    (w : World) (r1 : RowZ w a1 n1 cap1 z1) (r2 : RowZ w a2 n2 cap2 z2)
include g1 g2 h1 h2 r1 r2
end

end Go.Proofs.Ytjipmkgnndldpaa

namespace Go.Proofs.Ytjipmkgnndldpaa
set_option linter.unusedVariables false

end Go.Proofs.Ytjipmkgnndldpaa
