/- The pair of a deconvolution: its block, a gain, a list of values, whether there is a bound, the extent. By the verifier's side. -/
import Derived.Test.YtombgfpheiopgaaARowF
import Derived.Test.YtombgfpheiopgaaAKeepT
import Derived.BigRegion
import Derived.Test.YtombgfpheiopgaaAConMNDecMCloMCloP
namespace Go.Proofs.Ytombgfpheiopgaa
open Go.RowKit
set_option linter.unusedSimpArgs false
set_option linter.unusedVariables false

/-- Block b holds two curves, two lists and two numbers, and may be written. -/
structure Pd (w : World) (b : Nat) (x0 x1 x2 y0 y1 y2 l0 l1 n0 n1 : Value) : Prop where
  lo : Cur3 w b x0 x1 x2
  c3 : w.cell? ⟨b, 3, none⟩ = some y0
  c4 : w.cell? ⟨b, 4, none⟩ = some y1
  c5 : w.cell? ⟨b, 5, none⟩ = some y2
  c6 : w.cell? ⟨b, 6, none⟩ = some l0
  c7 : w.cell? ⟨b, 7, none⟩ = some l1
  c8 : w.cell? ⟨b, 8, none⟩ = some n0
  c9 : w.cell? ⟨b, 9, none⟩ = some n1
  f3 : w.frozen? ⟨b, 3, none⟩ = false
  f4 : w.frozen? ⟨b, 4, none⟩ = false
  f5 : w.frozen? ⟨b, 5, none⟩ = false
  f6 : w.frozen? ⟨b, 6, none⟩ = false
  f7 : w.frozen? ⟨b, 7, none⟩ = false
  f8 : w.frozen? ⟨b, 8, none⟩ = false
  f9 : w.frozen? ⟨b, 9, none⟩ = false
section
variable {w w' : World} {b : Nat} {x0 x1 x2 y0 y1 y2 l0 l1 n0 n1 : Value}
theorem Pd.lt (h : Pd w b x0 x1 x2 y0 y1 y2 l0 l1 n0 n1) : b < w.heap.size := h.lo.lt
theorem Pd.below (h : Pd w b x0 x1 x2 y0 y1 y2 l0 l1 n0 n1) (hb : Below w.heap.size w w') : Pd w' b x0 x1 x2 y0 y1 y2 l0 l1 n0 n1 :=
  ⟨h.lo.below hb, (hb.cell (p := ⟨b, 3, none⟩) h.lt).trans h.c3, (hb.cell (p := ⟨b, 4, none⟩) h.lt).trans h.c4, (hb.cell (p := ⟨b, 5, none⟩) h.lt).trans h.c5, (hb.cell (p := ⟨b, 6, none⟩) h.lt).trans h.c6, (hb.cell (p := ⟨b, 7, none⟩) h.lt).trans h.c7, (hb.cell (p := ⟨b, 8, none⟩) h.lt).trans h.c8, (hb.cell (p := ⟨b, 9, none⟩) h.lt).trans h.c9,
    (hb.frozen (p := ⟨b, 3, none⟩) h.lt).trans h.f3, (hb.frozen (p := ⟨b, 4, none⟩) h.lt).trans h.f4, (hb.frozen (p := ⟨b, 5, none⟩) h.lt).trans h.f5, (hb.frozen (p := ⟨b, 6, none⟩) h.lt).trans h.f6, (hb.frozen (p := ⟨b, 7, none⟩) h.lt).trans h.f7, (hb.frozen (p := ⟨b, 8, none⟩) h.lt).trans h.f8, (hb.frozen (p := ⟨b, 9, none⟩) h.lt).trans h.f9⟩
theorem Pd.other (h : Pd w b x0 x1 x2 y0 y1 y2 l0 l1 n0 n1) {q : Nat} (hq : ¬ b = q) (i : Nat) (v : Value) : Pd (w.setCell ⟨q, i, none⟩ v) b x0 x1 x2 y0 y1 y2 l0 l1 n0 n1 := by
  have hb : (w.setCell ⟨q, i, none⟩ v).heap[b]? = w.heap[b]? := Below.heap_setCell _ _ _ _ hq
  exact ⟨h.lo.other hq i v, (World.cell?_of_block (w := w) (a := ⟨b, 3, none⟩) hb).trans h.c3, (World.cell?_of_block (w := w) (a := ⟨b, 4, none⟩) hb).trans h.c4, (World.cell?_of_block (w := w) (a := ⟨b, 5, none⟩) hb).trans h.c5, (World.cell?_of_block (w := w) (a := ⟨b, 6, none⟩) hb).trans h.c6, (World.cell?_of_block (w := w) (a := ⟨b, 7, none⟩) hb).trans h.c7, (World.cell?_of_block (w := w) (a := ⟨b, 8, none⟩) hb).trans h.c8, (World.cell?_of_block (w := w) (a := ⟨b, 9, none⟩) hb).trans h.c9,
    (World.frozen?_of_block (w := w) (a := ⟨b, 3, none⟩) hb).trans h.f3, (World.frozen?_of_block (w := w) (a := ⟨b, 4, none⟩) hb).trans h.f4, (World.frozen?_of_block (w := w) (a := ⟨b, 5, none⟩) hb).trans h.f5, (World.frozen?_of_block (w := w) (a := ⟨b, 6, none⟩) hb).trans h.f6, (World.frozen?_of_block (w := w) (a := ⟨b, 7, none⟩) hb).trans h.f7, (World.frozen?_of_block (w := w) (a := ⟨b, 8, none⟩) hb).trans h.f8, (World.frozen?_of_block (w := w) (a := ⟨b, 9, none⟩) hb).trans h.f9⟩
end

/-- The numbers and places that a pair holds. -/
structure PV where
  a1 : Option Addr
  n1 : Nat
  cap1 : Nat
  p1 : Nat
  i1 : Int
  a2 : Option Addr
  n2 : Nat
  cap2 : Nat
  p2 : Nat
  i2 : Int
  la : Nat
  lb : Nat
  L : Nat
  R : Nat
def PV.cells (P : PV) : Array Value := #[.slice P.a1 P.n1 P.cap1, .int .i64 P.p1, .int .i64 P.i1, .slice P.a2 P.n2 P.cap2, .int .i64 P.p2, .int .i64 P.i2, .slice (some ⟨P.la, 0, none⟩) 1040 1040, .slice (some ⟨P.lb, 0, none⟩) P.R P.R, .int .i64 P.L, .int .i64 P.R]
abbrev PdB (w : World) (b : Nat) (P : PV) : Prop :=
  Pd w b (.slice P.a1 P.n1 P.cap1) (.int .i64 P.p1) (.int .i64 P.i1) (.slice P.a2 P.n2 P.cap2) (.int .i64 P.p2) (.int .i64 P.i2) (.slice (some ⟨P.la, 0, none⟩) 1040 1040) (.slice (some ⟨P.lb, 0, none⟩) P.R P.R) (.int .i64 P.L) (.int .i64 P.R)
/-! ## A list of values -/

/-- While the list is filled: up to k. -/
structure LS (w : World) (zs : List Int) (p : Nat) (inc : Int) (a : Option Addr) (n cap B m k : Nat) (u : World) : Prop where
  lst : RowF u (w.heap.size + 1) m (fun i => if i < k then atC zs p inc i else 0)
  cl : ClosP u B a n cap zs p inc
  far : Far B a n (w.heap.size + 1)
  below : Below w.heap.size w u
section
variable {w u v : World} {zs : List Int} {p : Nat} {inc : Int} {a : Option Addr} {n cap B m k : Nat}
theorem LS.call (h : LS w zs p inc a n cap B m k u) (hb : Below u.heap.size u v) : LS w zs p inc a n cap B m k v := ⟨h.lst.under hb, h.cl.under hb, h.far, h.below.trans (hb.mono h.below.size)⟩
end
-- gen_dec
/-- Its lists stand. -/
structure PIn (P : PV) (z1 z2 : List Int) (w : World) : Prop where
  r1 : RowZ w P.a1 P.n1 P.cap1 z1
  r2 : RowZ w P.a2 P.n2 P.cap2 z2
  f : RowF w P.la 1040 (atC z1 P.p1 P.i1)
  s : RowF w P.lb P.R (atC z2 P.p2 P.i2)
theorem PIn.under {P : PV} {z1 z2 : List Int} {w v : World} (h : PIn P z1 z2 w) (hb : Below w.heap.size w v) : PIn P z1 z2 v := ⟨h.r1.under hb, h.r2.under hb, h.f.under hb, h.s.under hb⟩
/-- While the pair and a curve stand in two boxes. -/
structure TwoH (w : World) (P : PV) (z1 z2 : List Int) (ha : Option Addr) (hn hcap : Nat) (hs : List Int) (r : Nat) (knc : Int) (u : World) : Prop where
  pr : PdB u w.heap.size P
  hc : Cur3 u (w.heap.size + 1) (.slice ha hn hcap) (.int .i64 r) (.int .i64 knc)
  hr : RowZ u ha hn hcap hs
  i : PIn P z1 z2 u
  below : Below w.heap.size w u
theorem TwoH.call {w u v : World} {P : PV} {z1 z2 : List Int} {ha : Option Addr} {hn hcap : Nat} {hs : List Int} {r : Nat} {knc : Int} (h : TwoH w P z1 z2 ha hn hcap hs r knc u) (hb : Below u.heap.size u v) : TwoH w P z1 z2 ha hn hcap hs r knc v := ⟨h.pr.below hb, h.hc.below hb, h.hr.under hb, h.i.under hb, h.below.trans (hb.mono h.below.size)⟩
end Go.Proofs.Ytombgfpheiopgaa
