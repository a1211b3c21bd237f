/- Of, Prove and Check of the convolution. By the verifier's side. | Check: its tests, and that it accepts what Prove returns. By the verifier's side. | Check of no certificate; the chapter's example; curves that are periodic by 24 ticks in the end. By the verifier's side. | The document's Minimum by its meaning. By the verifier's side. | The document's Later, Line and Flat. By the verifier's side. | Mathematics of the convolution of lines, without the program. By the verifier's side. -/
import Derived.Test.YtombgfpheiopgaaEConAD
import Derived.Test.YtombgfpheiopgaaER5D
import Derived.Test.YtombgfpheiopgaaECurX
import Derived.Test.YtombgfpheiopgaaEPwS
import Derived.Test.YtombgfpheiopgaaEBaseApartPick
import Derived.Deep.AppendLies
import Derived.Test.YtombgfpheiopgaaEConMN
namespace Go.Proofs.Ytombgfpheiopgaa
open Go.RowKit
set_option linter.unusedSimpArgs false
set_option linter.unusedVariables false

/-- Block b holds a certificate. -/
structure Cert5 (w : World) (b : Nat) (x0 x1 x2 x3 x4 : Value) : Prop where
  lo : Cur3 w b x0 x1 x2
  c3 : w.cell? ⟨b, 3, none⟩ = some x3
  c4 : w.cell? ⟨b, 4, none⟩ = some x4
  f3 : w.frozen? ⟨b, 3, none⟩ = false
  f4 : w.frozen? ⟨b, 4, none⟩ = false
theorem Cert5.below {w w' : World} {b : Nat} {x0 x1 x2 x3 x4 : Value} (h : Cert5 w b x0 x1 x2 x3 x4) (hb : Below w.heap.size w w') : Cert5 w' b x0 x1 x2 x3 x4 :=
  ⟨h.lo.below hb, (hb.cell (p := ⟨b, 3, none⟩) h.lo.lt).trans h.c3, (hb.cell (p := ⟨b, 4, none⟩) h.lo.lt).trans h.c4, (hb.frozen (p := ⟨b, 3, none⟩) h.lo.lt).trans h.f3, (hb.frozen (p := ⟨b, 4, none⟩) h.lo.lt).trans h.f4⟩
end Go.Proofs.Ytombgfpheiopgaa

namespace Go.Proofs.Ytombgfpheiopgaa
open Go.RowKit
set_option linter.unusedSimpArgs false
set_option linter.unusedVariables false

/-- What stands while the tests are made. -/
structure CKB (w : World) (cb rb pb hb tb : Nat) (la S1 : Nat) (G1 : Int) (lb S2 : Nat) (G2 : Int) (L : Nat) (lh Sh : Nat) (Gh : Int) (a : Option Addr) (n cap : Nat) (r : Nat) (knc : Int) (F ab N : Nat) (a5 : Option Addr) (n5 cap5 : Nat) (hs : List Int) (F1 F2 Fh : Nat → Int) (A : Nat → Nat) (u : World) : Prop where
  c : Cert5 u cb (.slice a n cap) (.int .i64 r) (.int .i64 knc) (.int .i64 F) (.slice (some ⟨ab, 0, none⟩) N N)
  rs : Cur3 u rb (.slice a5 n5 cap5) (.int .i64 r) (.int .i64 knc)
  pr : PrB u pb la S1 G1 lb S2 G2 L
  hp : Cur3 u hb (.slice (some ⟨lh, 0, none⟩) 1160 1160) (.int .i64 Sh) (.int .i64 Gh)
  rc : RowZ u a n cap hs
  rr : RowZ u a5 n5 cap5 hs
  r1 : RowF u la 1160 F1
  r2 : RowF u lb 1160 F2
  r3 : RowF u lh 1160 Fh
  ra : RowF u ab N (fun i => ((A i : Nat) : Int))
  below : Below w.heap.size w u
section
variable {w u v : World} {cb rb pb hb tb la S1 : Nat} {G1 : Int} {lb S2 : Nat} {G2 : Int} {L lh Sh : Nat} {Gh : Int} {a : Option Addr} {n cap r : Nat} {knc : Int} {F ab N : Nat} {a5 : Option Addr} {n5 cap5 : Nat} {hs : List Int} {F1 F2 Fh : Nat → Int} {A : Nat → Nat}
theorem CKB.call (h : CKB w cb rb pb hb tb la S1 G1 lb S2 G2 L lh Sh Gh a n cap r knc F ab N a5 n5 cap5 hs F1 F2 Fh A u) (hb' : Below u.heap.size u v) : CKB w cb rb pb hb tb la S1 G1 lb S2 G2 L lh Sh Gh a n cap r knc F ab N a5 n5 cap5 hs F1 F2 Fh A v :=
  ⟨h.c.below hb', h.rs.below hb', h.pr.below hb', h.hp.below hb', h.rc.under hb', h.rr.under hb', h.r1.under hb', h.r2.under hb', h.r3.under hb', h.ra.under hb', h.below.trans (hb'.mono h.below.size)⟩
end
/-- The list of the tests. -/
structure Tests (cb rb pb hb tb : Nat) (u : World) : Prop where
  t0 : u.cell? ⟨tb, 0, none⟩ = some (.func (.func 200) #[] #[.pointer (some ⟨cb, 0, none⟩), .pointer (some ⟨rb, 0, none⟩)])
  t1 : u.cell? ⟨tb, 1, none⟩ = some (.func (.func 201) #[] #[.pointer (some ⟨pb, 0, none⟩), .pointer (some ⟨rb, 0, none⟩), .pointer (some ⟨hb, 0, none⟩)])
  t2 : u.cell? ⟨tb, 2, none⟩ = some (.func (.func 203) #[] #[.pointer (some ⟨cb, 0, none⟩), .pointer (some ⟨pb, 0, none⟩), .pointer (some ⟨hb, 0, none⟩)])
  t3 : u.cell? ⟨tb, 3, none⟩ = some (.func (.func 204) #[] #[.pointer (some ⟨pb, 0, none⟩), .pointer (some ⟨hb, 0, none⟩), .pointer (some ⟨cb, 0, none⟩)])
  t4 : u.cell? ⟨tb, 4, none⟩ = some (.func (.func 206) #[] #[.pointer (some ⟨pb, 0, none⟩), .pointer (some ⟨hb, 0, none⟩)])
theorem Tests.under {cb rb pb hb tb : Nat} {u v : World} (h : Tests cb rb pb hb tb u) (hb' : Below u.heap.size u v) : Tests cb rb pb hb tb v :=
  ⟨(hb'.cell (p := ⟨tb, 0, none⟩) (lt_of_cell h.t0)).trans h.t0, (hb'.cell (p := ⟨tb, 1, none⟩) (lt_of_cell h.t1)).trans h.t1, (hb'.cell (p := ⟨tb, 2, none⟩) (lt_of_cell h.t2)).trans h.t2, (hb'.cell (p := ⟨tb, 3, none⟩) (lt_of_cell h.t3)).trans h.t3, (hb'.cell (p := ⟨tb, 4, none⟩) (lt_of_cell h.t4)).trans h.t4⟩

end Go.Proofs.Ytombgfpheiopgaa

namespace Go.Proofs.Ytombgfpheiopgaa
open Go.RowKit
set_option linter.unusedSimpArgs false
set_option linter.unusedVariables false

section
variable (a1 : Option Addr) (n1 cap1 : Nat) (z1 : List Int) (p1 : Nat) (i1 : Int) (g1 : Good z1 p1 i1) (a2 : Option Addr) (n2 cap2 : Nat) (z2 : List Int) (p2 : Nat) (i2 : Int) (g2 : Good z2 p2 i2) (h1 : Day (eC z1 p1 i1)) (h2 : Day (eC z2 p2 i2))
    (w : World) (r1 : RowZ w a1 n1 cap1 z1) (r2 : RowZ w a2 n2 cap2 z2)
include g1 g2 h1 h2 r1 r2
end


end Go.Proofs.Ytombgfpheiopgaa

namespace Go.Proofs.Ytombgfpheiopgaa
open Go.RowKit
set_option linter.unusedSimpArgs false
set_option linter.unusedVariables false

/-- What stands behind the list. -/
structure EX (w : World) (A O R : Nat) (b1 : Option Addr) (m1 c1 q1 : Nat) (j1 : Int) (y1 : List Int) (b2 : Option Addr) (m2 c2 q2 : Nat) (j2 : Int) (y2 : List Int) (L g cap M : Nat) (f : Nat → Int) (inc : Int) (u : World) : Prop where
  xa : Bx u A b1 m1 c1 q1 j1 y1
  xb : Bx u (A + 1) b2 m2 c2 q2 j2 y2
  out : Cur3 u O (.slice (some ⟨g, 0, none⟩) M cap) (.int .i64 L) (.int .i64 inc)
  row : RowZ u (some ⟨g, 0, none⟩) M cap (firsts f M)
  res : Cur3 u R (.slice none 0 0) (.int .i64 0) (.int .i64 0)
  below : Below w.heap.size w u
  n1 : A + 1 < O
  n2 : R < A
  n3 : O < g
  n4 : ∀ x, b1 = some x → 1 ≤ m1 → x.block < O
  n5 : ∀ x, b2 = some x → 1 ≤ m2 → x.block < O
  n6 : w.heap.size ≤ R
section
variable {w u v : World} {A O R : Nat} {b1 : Option Addr} {m1 c1 q1 : Nat} {j1 : Int} {y1 : List Int} {b2 : Option Addr} {m2 c2 q2 : Nat} {j2 : Int} {y2 : List Int} {L g cap M : Nat} {f : Nat → Int} {inc : Int}
theorem EX.call (h : EX w A O R b1 m1 c1 q1 j1 y1 b2 m2 c2 q2 j2 y2 L g cap M f inc u) (hb : Below u.heap.size u v) : EX w A O R b1 m1 c1 q1 j1 y1 b2 m2 c2 q2 j2 y2 L g cap M f inc v :=
  ⟨h.xa.under hb, h.xb.under hb, h.out.below hb, h.row.under hb, h.res.below hb, h.below.trans (hb.mono h.below.size), h.n1, h.n2, h.n3, h.n4, h.n5, h.n6⟩
end

end Go.Proofs.Ytombgfpheiopgaa

namespace Go.Proofs.Ytombgfpheiopgaa
open Go.RowKit
set_option linter.unusedSimpArgs false
set_option linter.unusedVariables false

/-- What stands in Later. -/
structure DL (w : World) (A : Nat) (a : Option Addr) (n cap p : Nat) (inc : Int) (zs : List Int) (u : World) : Prop where
  x : Bx u A a n cap p inc zs
  res : Cur3 u (w.heap.size + 1) (.slice none 0 0) (.int .i64 0) (.int .i64 0)
  below : Below w.heap.size w u
  n1 : w.heap.size + 1 < A
theorem DL.call {w u v : World} {A : Nat} {a : Option Addr} {n cap p : Nat} {inc : Int} {zs : List Int} (h : DL w A a n cap p inc zs u) (hb : Below u.heap.size u v) : DL w A a n cap p inc zs v := ⟨h.x.under hb, h.res.below hb, h.below.trans (hb.mono h.below.size), h.n1⟩
/-- Behind the append: the curve's list may not be read any more. -/
structure DM (w : World) (A : Nat) (a : Option Addr) (n cap p : Nat) (inc : Int) (u : World) : Prop where
  xb : Cur3 u A (.slice a n cap) (.int .i64 p) (.int .i64 inc)
  res : Cur3 u (w.heap.size + 1) (.slice none 0 0) (.int .i64 0) (.int .i64 0)
  below : Below w.heap.size w u
theorem DM.call {w u v : World} {A : Nat} {a : Option Addr} {n cap p : Nat} {inc : Int} (h : DM w A a n cap p inc u) (hb : Below u.heap.size u v) : DM w A a n cap p inc v := ⟨h.xb.below hb, h.res.below hb, h.below.trans (hb.mono h.below.size)⟩
section
variable (a1 : Option Addr) (n1 cap1 : Nat) (z1 : List Int) (p1 : Nat) (i1 : Int) (g1 : Good z1 p1 i1) (a2 : Option Addr) (n2 cap2 : Nat) (z2 : List Int) (p2 : Nat) (i2 : Int) (g2 : Good z2 p2 i2) (h1 : Day (eC z1 p1 i1)) (h2 : Day (eC z2 p2 i2))
    (w : World) (r1 : RowZ w a1 n1 cap1 z1) (r2 : RowZ w a2 n2 cap2 z2)
include g1 g2 h1 h2 r1 r2
end

end Go.Proofs.Ytombgfpheiopgaa

namespace Go.Proofs.Ytombgfpheiopgaa
set_option linter.unusedVariables false

end Go.Proofs.Ytombgfpheiopgaa
