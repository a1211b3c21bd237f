/- Of, Prove and Check of the convolution. By the verifier's side. | Check: its tests, and that it accepts what Prove returns. By the verifier's side. | Check of no certificate; the chapter's example; curves that are periodic by 24 ticks in the end. By the verifier's side. | The document's Minimum by its meaning. By the verifier's side. | The document's Later, Line and Flat. By the verifier's side. | Mathematics of the convolution of lines, without the program. By the verifier's side. -/
import Derived.Test.YtkienpbmoilheaaGreatARowF
import Derived.Test.YtkienpbmoilheaaGreatAPwEKeepTPwFPwG
import Derived.BigRegion
import Derived.Test.YtkienpbmoilheaaGreatACurMToDecM
import Derived.Test.YtkienpbmoilheaaGreatAR5D
import Derived.Test.YtkienpbmoilheaaGreatACurX
import Derived.Test.YtkienpbmoilheaaGreatAPwSPwU
import Derived.Test.YtkienpbmoilheaaGreatABaseApartPickKeepS
import Derived.Deep.AppendLies
namespace Go.Proofs.YtkienpbmoilheaaGreat
open Go.RowKit
set_option linter.unusedSimpArgs false
set_option linter.unusedVariables false

end Go.Proofs.YtkienpbmoilheaaGreat

namespace Go.Proofs.YtkienpbmoilheaaGreat
open Go.RowKit
set_option linter.unusedSimpArgs false
set_option linter.unusedVariables false

section
variable {w u v : World} {cb rb pb hb tb la S1 : Nat} {G1 : Int} {lb S2 : Nat} {G2 : Int} {L lh Sh : Nat} {Gh : Int} {a : Option Addr} {n cap r : Nat} {knc : Int} {F ab N : Nat} {a5 : Option Addr} {n5 cap5 : Nat} {hs : List Int} {F1 F2 Fh : Nat → Int} {A : Nat → Nat}
end
end Go.Proofs.YtkienpbmoilheaaGreat

namespace Go.Proofs.YtkienpbmoilheaaGreat
open Go.RowKit
set_option linter.unusedSimpArgs false
set_option linter.unusedVariables false

section
variable (a1 : Option Addr) (n1 cap1 : Nat) (z1 : List Int) (p1 : Nat) (i1 : Int) (g1 : Good z1 p1 i1) (a2 : Option Addr) (n2 cap2 : Nat) (z2 : List Int) (p2 : Nat) (i2 : Int) (g2 : Good z2 p2 i2) (h1 : Day (eC z1 p1 i1)) (h2 : Day (eC z2 p2 i2))
    (w : World) (r1 : RowZ w a1 n1 cap1 z1) (r2 : RowZ w a2 n2 cap2 z2)
include g1 g2 h1 h2 r1 r2
end


end Go.Proofs.YtkienpbmoilheaaGreat

namespace Go.Proofs.YtkienpbmoilheaaGreat
open Go.RowKit
set_option linter.unusedSimpArgs false
set_option linter.unusedVariables false

set_option maxRecDepth 100000 in
set_option maxHeartbeats 1600000 in
theorem rslopes (b1 : Option Addr) (m1 c1 q1 : Nat) (j1 : Int) (b2 : Option Addr) (m2 c2 q2 : Nat) (j2 : Int) (L k1 k2 : Nat) (x1 x2 : Int) (hkq1 : (L : Int).tdiv (q1 : Int) = (k1 : Int)) (hkz1 : ¬ (q1 : Int) = 0) (hkn1 : ¬ q1 = 0) (hkd1 : (L : Int) / (q1 : Int) = (k1 : Int)) (hxw1 : IntKind.i64.wrap (j1 * (k1 : Int)) = x1) (hxx1 : IntKind.i64.wrap x1 = x1) (hkw1 : IntKind.i64.wrap (k1 : Int) = (k1 : Int)) (hkq2 : (L : Int).tdiv (q2 : Int) = (k2 : Int)) (hkz2 : ¬ (q2 : Int) = 0) (hkn2 : ¬ q2 = 0) (hkd2 : (L : Int) / (q2 : Int) = (k2 : Int)) (hxw2 : IntKind.i64.wrap (j2 * (k2 : Int)) = x2) (hxx2 : IntKind.i64.wrap x2 = x2) (hkw2 : IntKind.i64.wrap (k2 : Int) = (k2 : Int)) (hb1 : 0 ≤ x1 ∧ x1 ≤ 128849018880) (hb2 : 0 ≤ x2 ∧ x2 ≤ 128849018880) (w : World) :
    Calls Tryz.prog 87 #[curV b1 m1 c1 q1 j1, curV b2 m2 c2 q2 j2, .int .i64 L] w (Says (.int .i64 (x1 - x2)) w) := by
  obtain ⟨W, hW⟩ : ∃ W, (w.alloc (.cells #[.slice b1 m1 c1, .int .i64 q1, .int .i64 j1] 24)).alloc (.cells #[.slice b2 m2 c2, .int .i64 q2, .int .i64 j2] 24) = W := ⟨_, rfl⟩
  have hB : Below w.heap.size w W := by rw [← hW]; exact ((Below.refl _ _).alloc (Nat.le_refl _) _).alloc (by simp) _
  have k1' : Cur3 W w.heap.size (.slice b1 m1 c1) (.int .i64 q1) (.int .i64 j1) := by rw [← hW]; exact (Cur3.new w _ _ _ _).alloc _
  have k2' : Cur3 W (w.heap.size + 1) (.slice b2 m2 c2) (.int .i64 q2) (.int .i64 j2) := by rw [← hW]; exact Cur3.new2 w _ _ _ _ _
  have HB := Lib.hid hB
  have HW := Lib.hid hW
  obtain ⟨g0, g1, g2, g3, g4, g5⟩ := k1'
  obtain ⟨d0, d1, d2, d3, d4, d5⟩ := k2'
  obtain ⟨hb1a, hb1b⟩ := hb1
  obtain ⟨hb2a, hb2b⟩ := hb2
  have hxs : IntKind.i64.wrap (x1 - x2) = x1 - x2 := IntWalk.i64_in _ ⟨by omega, by omega⟩
  clear hB hW
  go_enter Tryz.func87, Tryz.ntmps87
  go_upto_region 1 with fail
  try rw [HW.out]
  go_quiet (fail)
  go_wp2_with fail
  go_ret
  exact ⟨rfl, HB.out.drewN _⟩

/-- What stands behind the list. -/
structure EX (w : World) (A O R : Nat) (b1 : Option Addr) (m1 c1 q1 : Nat) (j1 : Int) (y1 : List Int) (b2 : Option Addr) (m2 c2 q2 : Nat) (j2 : Int) (y2 : List Int) (L g cap M : Nat) (f : Nat → Int) (inc : Int) (u : World) : Prop where
  xa : Bx u A b1 m1 c1 q1 j1 y1
  xb : Bx u (A + 1) b2 m2 c2 q2 j2 y2
  out : Cur3 u O (.slice (some ⟨g, 0, none⟩) M cap) (.int .i64 L) (.int .i64 inc)
  row : RowZ u (some ⟨g, 0, none⟩) M cap (firsts f M)
  res : Cur3 u R (.slice none 0 0) (.int .i64 0) (.int .i64 0)
  below : Below w.heap.size w u
  n1 : A + 1 < O
  n2 : R < A
  n3 : O < g
  n4 : ∀ x, b1 = some x → 1 ≤ m1 → x.block < O
  n5 : ∀ x, b2 = some x → 1 ≤ m2 → x.block < O
  n6 : w.heap.size ≤ R
section
variable {w u v : World} {A O R : Nat} {b1 : Option Addr} {m1 c1 q1 : Nat} {j1 : Int} {y1 : List Int} {b2 : Option Addr} {m2 c2 q2 : Nat} {j2 : Int} {y2 : List Int} {L g cap M : Nat} {f : Nat → Int} {inc : Int}
theorem EX.call (h : EX w A O R b1 m1 c1 q1 j1 y1 b2 m2 c2 q2 j2 y2 L g cap M f inc u) (hb : Below u.heap.size u v) : EX w A O R b1 m1 c1 q1 j1 y1 b2 m2 c2 q2 j2 y2 L g cap M f inc v :=
  ⟨h.xa.under hb, h.xb.under hb, h.out.below hb, h.row.under hb, h.res.below hb, h.below.trans (hb.mono h.below.size), h.n1, h.n2, h.n3, h.n4, h.n5, h.n6⟩
theorem EX.put (h : EX w A O R b1 m1 c1 q1 j1 y1 b2 m2 c2 q2 j2 y2 L g cap M f inc u) (x : Int) : EX w A O R b1 m1 c1 q1 j1 y1 b2 m2 c2 q2 j2 y2 L g cap M f x (u.setCell ⟨O, 2, none⟩ (.int .i64 x)) := by
  have n1 := h.n1; have n2 := h.n2; have n3 := h.n3; have n6 := h.n6
  refine ⟨⟨h.xa.box.other (by omega) _ _, h.xa.row.store (fun y hy hn => by have := h.n4 y hy hn; omega) _ _⟩, ⟨h.xb.box.other (by omega) _ _, h.xb.row.store (fun y hy hn => by have := h.n5 y hy hn; omega) _ _⟩, h.out.set2 _, h.row.store (fun y hy _ => by cases hy; show g ≠ O; omega) _ _, h.res.other (by omega) _ _, h.below.setCell (p := ⟨O, 2, none⟩) (by show w.heap.size ≤ O; omega) _, h.n1, h.n2, h.n3, h.n4, h.n5, h.n6⟩
end

end Go.Proofs.YtkienpbmoilheaaGreat

namespace Go.Proofs.YtkienpbmoilheaaGreat
open Go.RowKit
set_option linter.unusedSimpArgs false
set_option linter.unusedVariables false

section
variable (a1 : Option Addr) (n1 cap1 : Nat) (z1 : List Int) (p1 : Nat) (i1 : Int) (g1 : Good z1 p1 i1) (a2 : Option Addr) (n2 cap2 : Nat) (z2 : List Int) (p2 : Nat) (i2 : Int) (g2 : Good z2 p2 i2) (h1 : Day (eC z1 p1 i1)) (h2 : Day (eC z2 p2 i2))
    (w : World) (r1 : RowZ w a1 n1 cap1 z1) (r2 : RowZ w a2 n2 cap2 z2)
include g1 g2 h1 h2 r1 r2
end

end Go.Proofs.YtkienpbmoilheaaGreat

namespace Go.Proofs.YtkienpbmoilheaaGreat
set_option linter.unusedVariables false

end Go.Proofs.YtkienpbmoilheaaGreat
