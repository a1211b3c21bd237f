/- The pair of a convolution: its block, sum, growth; a curve's part in it. By the verifier's side. | The convolution of a pair; Of. By the verifier's side. | Horizon, repeats, attains. By the verifier's side. | The least splits; a list of splits is checked; all sums are at least the result. By the verifier's side. -/
import Derived.Test.YtombgfpheiopgaaERowF
import Derived.Test.YtombgfpheiopgaaProg
import Derived.WalkKit
import Derived.Deep.RegionHeld3
import Derived.StillTail
import Derived.Deep.DrawnRows
import Derived.BigRegion
import Derived.Test.YtombgfpheiopgaaEConMN
namespace Go.Proofs.Ytombgfpheiopgaa
open Go.RowKit
set_option linter.unusedSimpArgs false
set_option linter.unusedVariables false

/-- Block b holds two parts and a number, and may be written. -/
structure Pr7 (w : World) (b : Nat) (x0 x1 x2 y0 y1 y2 z0 : Value) : Prop where
  lo : Cur3 w b x0 x1 x2
  c3 : w.cell? ⟨b, 3, none⟩ = some y0
  c4 : w.cell? ⟨b, 4, none⟩ = some y1
  c5 : w.cell? ⟨b, 5, none⟩ = some y2
  c6 : w.cell? ⟨b, 6, none⟩ = some z0
  f3 : w.frozen? ⟨b, 3, none⟩ = false
  f4 : w.frozen? ⟨b, 4, none⟩ = false
  f5 : w.frozen? ⟨b, 5, none⟩ = false
  f6 : w.frozen? ⟨b, 6, none⟩ = false
section
variable {w w' : World} {b : Nat} {x0 x1 x2 y0 y1 y2 z0 : Value}
theorem Pr7.lt (h : Pr7 w b x0 x1 x2 y0 y1 y2 z0) : b < w.heap.size := h.lo.lt
theorem Pr7.below (h : Pr7 w b x0 x1 x2 y0 y1 y2 z0) (hb : Below w.heap.size w w') : Pr7 w' b x0 x1 x2 y0 y1 y2 z0 :=
  ⟨h.lo.below hb, (hb.cell (p := ⟨b, 3, none⟩) h.lt).trans h.c3, (hb.cell (p := ⟨b, 4, none⟩) h.lt).trans h.c4, (hb.cell (p := ⟨b, 5, none⟩) h.lt).trans h.c5, (hb.cell (p := ⟨b, 6, none⟩) h.lt).trans h.c6, (hb.frozen (p := ⟨b, 3, none⟩) h.lt).trans h.f3, (hb.frozen (p := ⟨b, 4, none⟩) h.lt).trans h.f4, (hb.frozen (p := ⟨b, 5, none⟩) h.lt).trans h.f5, (hb.frozen (p := ⟨b, 6, none⟩) h.lt).trans h.f6⟩
end

abbrev PrB (w : World) (b la S1 : Nat) (G1 : Int) (lb S2 : Nat) (G2 : Int) (L : Nat) : Prop :=
  Pr7 w b (.slice (some ⟨la, 0, none⟩) 1160 1160) (.int .i64 S1) (.int .i64 G1) (.slice (some ⟨lb, 0, none⟩) 1160 1160) (.int .i64 S2) (.int .i64 G2) (.int .i64 L)

section
variable {w u v : World} {a : Option Addr} {n cap p : Nat} {inc : Int} {zs : List Int} {S : Nat} {G : Int} {lb A B k : Nat}
/-- What stands while the parts of a curve are computed: its box, the result's. -/
structure DX (w : World) (a : Option Addr) (n cap p : Nat) (inc : Int) (zs : List Int) (u : World) : Prop where
  cur : Cur3 u w.heap.size (.slice a n cap) (.int .i64 p) (.int .i64 inc)
  res : Cur3 u (w.heap.size + 1) (.slice none 0 0) (.int .i64 0) (.int .i64 0)
  row : RowZ u a n cap zs
  below : Below w.heap.size w u
theorem DX.call (h : DX w a n cap p inc zs u) (hb : Below u.heap.size u v) : DX w a n cap p inc zs v := ⟨h.cur.below hb, h.res.below hb, h.row.under hb, h.below.trans (hb.mono h.below.size)⟩
/-- The list is filled up to k. -/
structure DZ (w : World) (a : Option Addr) (n cap p : Nat) (inc : Int) (zs : List Int) (S : Nat) (G : Int) (lb A B k : Nat) (u : World) : Prop where
  lst : RowF u lb 1160 (fun i => if i < k then atC zs p inc i else 0)
  prt : Cur3 u A (.slice (some ⟨lb, 0, none⟩) 1160 1160) (.int .i64 S) (.int .i64 G)
  cl : ClosP u B a n cap zs p inc
  res : Cur3 u (w.heap.size + 1) (.slice none 0 0) (.int .i64 0) (.int .i64 0)
  far : Far B a n lb
  ne : lb ≠ A
  l1 : w.heap.size + 1 < lb
  l2 : w.heap.size + 1 < A
  below : Below w.heap.size w u
theorem DZ.call (h : DZ w a n cap p inc zs S G lb A B k u) (hb : Below u.heap.size u v) : DZ w a n cap p inc zs S G lb A B k v :=
  ⟨h.lst.under hb, h.prt.below hb, h.cl.under hb, h.res.below hb, h.far, h.ne, h.l1, h.l2, h.below.trans (hb.mono h.below.size)⟩
end
end Go.Proofs.Ytombgfpheiopgaa

namespace Go.Proofs.Ytombgfpheiopgaa
open Go.RowKit
set_option linter.unusedSimpArgs false
set_option linter.unusedVariables false

structure Sq (w : World) (a1 : Option Addr) (n1 cap1 p1 : Nat) (i1 : Int) (z1 : List Int) (a2 : Option Addr) (n2 cap2 p2 : Nat) (i2 : Int) (z2 : List Int) (u : World) : Prop where
  c1 : Cur3 u w.heap.size (.slice a1 n1 cap1) (.int .i64 p1) (.int .i64 i1)
  c2 : Cur3 u (w.heap.size + 1) (.slice a2 n2 cap2) (.int .i64 p2) (.int .i64 i2)
  res : Pr7 u (w.heap.size + 2) (.slice none 0 0) (.int .i64 0) (.int .i64 0) (.slice none 0 0) (.int .i64 0) (.int .i64 0) (.int .i64 0)
  r1 : RowZ u a1 n1 cap1 z1
  r2 : RowZ u a2 n2 cap2 z2
  f1 : ∀ x, a1 = some x → 1 ≤ n1 → x.block < w.heap.size ∨ w.heap.size + 2 < x.block
  f2 : ∀ x, a2 = some x → 1 ≤ n2 → x.block < w.heap.size ∨ w.heap.size + 2 < x.block
  below : Below w.heap.size w u
section
variable {w : World} {a1 a2 : Option Addr} {n1 cap1 p1 n2 cap2 p2 : Nat} {i1 i2 : Int} {z1 z2 : List Int} {u v : World}
theorem Sq.call (h : Sq w a1 n1 cap1 p1 i1 z1 a2 n2 cap2 p2 i2 z2 u) (hb : Below u.heap.size u v) : Sq w a1 n1 cap1 p1 i1 z1 a2 n2 cap2 p2 i2 z2 v :=
  ⟨h.c1.below hb, h.c2.below hb, h.res.below hb, h.r1.under hb, h.r2.under hb, h.f1, h.f2, h.below.trans (hb.mono h.below.size)⟩
end
/-- What stands while the least sums are listed. -/
structure CV (w : World) (la S1 : Nat) (G1 : Int) (lb S2 : Nat) (G2 : Int) (L : Nat) (z1 : List Int) (p1 : Nat) (i1 : Int) (z2 : List Int) (p2 : Nat) (i2 : Int) (m t : Nat) (x : Int) (u : World) : Prop where
  lst : RowF u (w.heap.size + 2) m (fun i => if i < t then encF (eConv z1 p1 i1 z2 p2 i2) i else if i = t then x else 0)
  box : u.cell? ⟨w.heap.size + 3, 0, none⟩ = some (.slice (some ⟨w.heap.size + 2, 0, none⟩) m m)
  pr : PrB u w.heap.size la S1 G1 lb S2 G2 L
  res : Cur3 u (w.heap.size + 1) (.slice none 0 0) (.int .i64 0) (.int .i64 0)
  r1 : RowF u la 1160 (atC z1 p1 i1)
  r2 : RowF u lb 1160 (atC z2 p2 i2)
  l1 : la < w.heap.size
  l2 : lb < w.heap.size
  below : Below w.heap.size w u
section
variable {w u v : World} {la S1 : Nat} {G1 : Int} {lb S2 : Nat} {G2 : Int} {L : Nat} {z1 : List Int} {p1 : Nat} {i1 : Int} {z2 : List Int} {p2 : Nat} {i2 : Int} {m t : Nat} {x : Int}
theorem CV.call (h : CV w la S1 G1 lb S2 G2 L z1 p1 i1 z2 p2 i2 m t x u) (hb : Below u.heap.size u v) : CV w la S1 G1 lb S2 G2 L z1 p1 i1 z2 p2 i2 m t x v :=
  ⟨h.lst.under hb, (hb.cell (lt_of_cell h.box)).trans h.box, h.pr.below hb, h.res.below hb, h.r1.under hb, h.r2.under hb, h.l1, h.l2, h.below.trans (hb.mono h.below.size)⟩
end
end Go.Proofs.Ytombgfpheiopgaa

namespace Go.Proofs.Ytombgfpheiopgaa
open Go.RowKit
set_option linter.unusedSimpArgs false
set_option linter.unusedVariables false

/-- The pair and a part in two boxes. -/
structure TwoB (w : World) (la S1 : Nat) (G1 : Int) (lb S2 : Nat) (G2 : Int) (L : Nat) (lh Sh : Nat) (Gh : Int) (u : World) : Prop where
  pr : PrB u w.heap.size la S1 G1 lb S2 G2 L
  hc : Cur3 u (w.heap.size + 1) (.slice (some ⟨lh, 0, none⟩) 1160 1160) (.int .i64 Sh) (.int .i64 Gh)
  below : Below w.heap.size w u
theorem TwoB.call {w u v : World} {la S1 : Nat} {G1 : Int} {lb S2 : Nat} {G2 : Int} {L : Nat} {lh Sh : Nat} {Gh : Int} (h : TwoB w la S1 G1 lb S2 G2 L lh Sh Gh u) (hb : Below u.heap.size u v) : TwoB w la S1 G1 lb S2 G2 L lh Sh Gh v := ⟨h.pr.below hb, h.hc.below hb, h.below.trans (hb.mono h.below.size)⟩
section
variable {W w u v : World} {la S1 : Nat} {G1 : Int} {lb S2 : Nat} {G2 : Int} {L : Nat} {lh Sh : Nat} {Gh : Int} {t : Nat} {y : Int}
end

end Go.Proofs.Ytombgfpheiopgaa

namespace Go.Proofs.Ytombgfpheiopgaa
open Go.RowKit
set_option linter.unusedSimpArgs false
set_option linter.unusedVariables false

/-- The lists of a pair and of a part stand. -/
structure Lists (w : World) (la lb lh : Nat) (F1 F2 Fh : Nat → Int) (u : World) : Prop where
  r1 : RowF u la 1160 F1
  r2 : RowF u lb 1160 F2
  r3 : RowF u lh 1160 Fh
  l1 : la < w.heap.size
  l2 : lb < w.heap.size
  l3 : lh < w.heap.size
theorem Lists.call {w u v : World} {la lb lh : Nat} {F1 F2 Fh : Nat → Int} (h : Lists w la lb lh F1 F2 Fh u) (hb : Below u.heap.size u v) : Lists w la lb lh F1 F2 Fh v := ⟨h.r1.under hb, h.r2.under hb, h.r3.under hb, h.l1, h.l2, h.l3⟩
theorem Lists.start {w : World} {la lb lh : Nat} {F1 F2 Fh : Nat → Int} (r1 : RowF w la 1160 F1) (r2 : RowF w lb 1160 F2) (r3 : RowF w lh 1160 Fh) {u : World} (hb : Below w.heap.size w u) : Lists w la lb lh F1 F2 Fh u := ⟨r1.under hb, r2.under hb, r3.under hb, r1.lt, r2.lt, r3.lt⟩
/-- While the splits are listed. -/
structure SP (w : World) (la S1 : Nat) (G1 : Int) (lb S2 : Nat) (G2 : Int) (L : Nat) (lh Sh : Nat) (Gh : Int) (F1 F2 Fh : Nat → Int) (N : Nat) (A : Nat → Nat) (t : Nat) (k : Nat) (u : World) : Prop where
  two : TwoB w la S1 G1 lb S2 G2 L lh Sh Gh u
  ls : Lists w la lb lh F1 F2 Fh u
  lst : RowF u (w.heap.size + 2) N (fun i => if i < t then ((A i : Nat) : Int) else if i = t then (k : Int) else 0)
section
variable {W w u v : World} {la S1 : Nat} {G1 : Int} {lb S2 : Nat} {G2 : Int} {L : Nat} {lh Sh : Nat} {Gh : Int} {F1 F2 Fh : Nat → Int} {N : Nat} {A : Nat → Nat} {t k : Nat}
theorem SP.call (h : SP w la S1 G1 lb S2 G2 L lh Sh Gh F1 F2 Fh N A t k u) (hb : Below u.heap.size u v) : SP w la S1 G1 lb S2 G2 L lh Sh Gh F1 F2 Fh N A t k v := ⟨h.two.call hb, h.ls.call hb, h.lst.under hb⟩
end

end Go.Proofs.Ytombgfpheiopgaa
