/- The pair of a convolution: its block, sum, growth; a curve's part in it. By the verifier's side. | The convolution of a pair; Of. By the verifier's side. | Horizon, repeats, attains. By the verifier's side. | The least splits; a list of splits is checked; all sums are at least the result. By the verifier's side. -/
import Derived.Test.YthljhddnfflpjaaHRowF
import Derived.Test.YthljhddnfflpjaaHKeepT
import Derived.BigRegion
import Derived.Test.YthljhddnfflpjaaHPwOPwXR56MHpM
namespace Go.Proofs.Ythljhddnfflpjaa
open Go.RowKit
set_option linter.unusedSimpArgs false
set_option linter.unusedVariables false

/-- Block b holds two parts and a number, and may be written. -/
structure Pr7 (w : World) (b : Nat) (x0 x1 x2 y0 y1 y2 z0 : Value) : Prop where
  lo : Cur3 w b x0 x1 x2
  c3 : w.cell? ⟨b, 3, none⟩ = some y0
  c4 : w.cell? ⟨b, 4, none⟩ = some y1
  c5 : w.cell? ⟨b, 5, none⟩ = some y2
  c6 : w.cell? ⟨b, 6, none⟩ = some z0
  f3 : w.frozen? ⟨b, 3, none⟩ = false
  f4 : w.frozen? ⟨b, 4, none⟩ = false
  f5 : w.frozen? ⟨b, 5, none⟩ = false
  f6 : w.frozen? ⟨b, 6, none⟩ = false
section
variable {w w' : World} {b : Nat} {x0 x1 x2 y0 y1 y2 z0 : Value}
theorem Pr7.lt (h : Pr7 w b x0 x1 x2 y0 y1 y2 z0) : b < w.heap.size := h.lo.lt
theorem Pr7.below (h : Pr7 w b x0 x1 x2 y0 y1 y2 z0) (hb : Below w.heap.size w w') : Pr7 w' b x0 x1 x2 y0 y1 y2 z0 :=
  ⟨h.lo.below hb, (hb.cell (p := ⟨b, 3, none⟩) h.lt).trans h.c3, (hb.cell (p := ⟨b, 4, none⟩) h.lt).trans h.c4, (hb.cell (p := ⟨b, 5, none⟩) h.lt).trans h.c5, (hb.cell (p := ⟨b, 6, none⟩) h.lt).trans h.c6, (hb.frozen (p := ⟨b, 3, none⟩) h.lt).trans h.f3, (hb.frozen (p := ⟨b, 4, none⟩) h.lt).trans h.f4, (hb.frozen (p := ⟨b, 5, none⟩) h.lt).trans h.f5, (hb.frozen (p := ⟨b, 6, none⟩) h.lt).trans h.f6⟩
theorem Pr7.other (h : Pr7 w b x0 x1 x2 y0 y1 y2 z0) {q : Nat} (hq : ¬ b = q) (i : Nat) (v : Value) : Pr7 (w.setCell ⟨q, i, none⟩ v) b x0 x1 x2 y0 y1 y2 z0 := by
  have hb : (w.setCell ⟨q, i, none⟩ v).heap[b]? = w.heap[b]? := Below.heap_setCell _ _ _ _ hq
  exact ⟨h.lo.other hq i v, (World.cell?_of_block (w := w) (a := ⟨b, 3, none⟩) hb).trans h.c3, (World.cell?_of_block (w := w) (a := ⟨b, 4, none⟩) hb).trans h.c4, (World.cell?_of_block (w := w) (a := ⟨b, 5, none⟩) hb).trans h.c5, (World.cell?_of_block (w := w) (a := ⟨b, 6, none⟩) hb).trans h.c6, (World.frozen?_of_block (w := w) (a := ⟨b, 3, none⟩) hb).trans h.f3, (World.frozen?_of_block (w := w) (a := ⟨b, 4, none⟩) hb).trans h.f4, (World.frozen?_of_block (w := w) (a := ⟨b, 5, none⟩) hb).trans h.f5, (World.frozen?_of_block (w := w) (a := ⟨b, 6, none⟩) hb).trans h.f6⟩
end

abbrev PrB (w : World) (b la S1 : Nat) (G1 : Int) (lb S2 : Nat) (G2 : Int) (L : Nat) : Prop :=
  Pr7 w b (.slice (some ⟨la, 0, none⟩) 1160 1160) (.int .i64 S1) (.int .i64 G1) (.slice (some ⟨lb, 0, none⟩) 1160 1160) (.int .i64 S2) (.int .i64 G2) (.int .i64 L)

section
variable {w u v : World} {a : Option Addr} {n cap p : Nat} {inc : Int} {zs : List Int} {S : Nat} {G : Int} {lb A B k : Nat}
end
end Go.Proofs.Ythljhddnfflpjaa

namespace Go.Proofs.Ythljhddnfflpjaa
open Go.RowKit
set_option linter.unusedSimpArgs false
set_option linter.unusedVariables false

section
variable {w : World} {a1 a2 : Option Addr} {n1 cap1 p1 n2 cap2 p2 : Nat} {i1 i2 : Int} {z1 z2 : List Int} {u v : World}
end
section
variable {w u v : World} {la S1 : Nat} {G1 : Int} {lb S2 : Nat} {G2 : Int} {L : Nat} {z1 : List Int} {p1 : Nat} {i1 : Int} {z2 : List Int} {p2 : Nat} {i2 : Int} {m t : Nat} {x : Int}
end
theorem make_rowM (m : Nat) (hm : m ≤ 4000) (w : World) : (Instr.makeSlice 22 (.int .i64 (m : Int)) (.int .i64 (m : Int))).run Try.prog w = .ok (.slice (some ⟨w.heap.size, 0, none⟩) m m) (w.alloc (.cells (madeCells #[.int .i64 0] m) 3)) := by
  have := run_make_row' (P := Try.prog) 22 3 (.int .i64 0) 8 Try.underlying22 info_int rfl .i64 .i64 m (by omega) (by omega) w
  simpa using this

end Go.Proofs.Ythljhddnfflpjaa

namespace Go.Proofs.Ythljhddnfflpjaa
open Go.RowKit
set_option linter.unusedSimpArgs false
set_option linter.unusedVariables false

/-- The pair and a part in two boxes. -/
structure TwoB (w : World) (la S1 : Nat) (G1 : Int) (lb S2 : Nat) (G2 : Int) (L : Nat) (lh Sh : Nat) (Gh : Int) (u : World) : Prop where
  pr : PrB u w.heap.size la S1 G1 lb S2 G2 L
  hc : Cur3 u (w.heap.size + 1) (.slice (some ⟨lh, 0, none⟩) 1160 1160) (.int .i64 Sh) (.int .i64 Gh)
  below : Below w.heap.size w u
theorem TwoB.call {w u v : World} {la S1 : Nat} {G1 : Int} {lb S2 : Nat} {G2 : Int} {L : Nat} {lh Sh : Nat} {Gh : Int} (h : TwoB w la S1 G1 lb S2 G2 L lh Sh Gh u) (hb : Below u.heap.size u v) : TwoB w la S1 G1 lb S2 G2 L lh Sh Gh v := ⟨h.pr.below hb, h.hc.below hb, h.below.trans (hb.mono h.below.size)⟩
section
variable {W w u v : World} {la S1 : Nat} {G1 : Int} {lb S2 : Nat} {G2 : Int} {L : Nat} {lh Sh : Nat} {Gh : Int} {t : Nat} {y : Int}
end

end Go.Proofs.Ythljhddnfflpjaa

namespace Go.Proofs.Ythljhddnfflpjaa
open Go.RowKit
set_option linter.unusedSimpArgs false
set_option linter.unusedVariables false

/-- The lists of a pair and of a part stand. -/
structure Lists (w : World) (la lb lh : Nat) (F1 F2 Fh : Nat → Int) (u : World) : Prop where
  r1 : RowF u la 1160 F1
  r2 : RowF u lb 1160 F2
  r3 : RowF u lh 1160 Fh
  l1 : la < w.heap.size
  l2 : lb < w.heap.size
  l3 : lh < w.heap.size
theorem Lists.call {w u v : World} {la lb lh : Nat} {F1 F2 Fh : Nat → Int} (h : Lists w la lb lh F1 F2 Fh u) (hb : Below u.heap.size u v) : Lists w la lb lh F1 F2 Fh v := ⟨h.r1.under hb, h.r2.under hb, h.r3.under hb, h.l1, h.l2, h.l3⟩
theorem Lists.start {w : World} {la lb lh : Nat} {F1 F2 Fh : Nat → Int} (r1 : RowF w la 1160 F1) (r2 : RowF w lb 1160 F2) (r3 : RowF w lh 1160 Fh) {u : World} (hb : Below w.heap.size w u) : Lists w la lb lh F1 F2 Fh u := ⟨r1.under hb, r2.under hb, r3.under hb, r1.lt, r2.lt, r3.lt⟩
theorem Lists.other {w u : World} {la lb lh : Nat} {F1 F2 Fh : Nat → Int} (h : Lists w la lb lh F1 F2 Fh u) {b : Nat} (hb : w.heap.size ≤ b) (i : Nat) (v : Value) : Lists w la lb lh F1 F2 Fh (u.setCell ⟨b, i, none⟩ v) := by
  have := h.l1; have := h.l2; have := h.l3
  exact ⟨h.r1.other (by omega) _ _, h.r2.other (by omega) _ _, h.r3.other (by omega) _ _, h.l1, h.l2, h.l3⟩

/-- While the splits are listed. -/
structure SP (w : World) (la S1 : Nat) (G1 : Int) (lb S2 : Nat) (G2 : Int) (L : Nat) (lh Sh : Nat) (Gh : Int) (F1 F2 Fh : Nat → Int) (N : Nat) (A : Nat → Nat) (t : Nat) (k : Nat) (u : World) : Prop where
  two : TwoB w la S1 G1 lb S2 G2 L lh Sh Gh u
  ls : Lists w la lb lh F1 F2 Fh u
  lst : RowF u (w.heap.size + 2) N (fun i => if i < t then ((A i : Nat) : Int) else if i = t then (k : Int) else 0)
section
variable {W w u v : World} {la S1 : Nat} {G1 : Int} {lb S2 : Nat} {G2 : Int} {L : Nat} {lh Sh : Nat} {Gh : Int} {F1 F2 Fh : Nat → Int} {N : Nat} {A : Nat → Nat} {t k : Nat}
theorem SP.call (h : SP w la S1 G1 lb S2 G2 L lh Sh Gh F1 F2 Fh N A t k u) (hb : Below u.heap.size u v) : SP w la S1 G1 lb S2 G2 L lh Sh Gh F1 F2 Fh N A t k v := ⟨h.two.call hb, h.ls.call hb, h.lst.under hb⟩
theorem TwoB.other (h : TwoB w la S1 G1 lb S2 G2 L lh Sh Gh u) {b : Nat} (hb : w.heap.size + 1 < b) (i : Nat) (x : Value) : TwoB w la S1 G1 lb S2 G2 L lh Sh Gh (u.setCell ⟨b, i, none⟩ x) :=
  ⟨h.pr.other (by omega) _ _, h.hc.other (by omega) _ _, h.below.setCell (p := ⟨b, i, none⟩) (by show w.heap.size ≤ b; omega) _⟩
theorem SP.put (h : SP w la S1 G1 lb S2 G2 L lh Sh Gh F1 F2 Fh N A t k u) (ht : t < N) (m : Nat) : SP w la S1 G1 lb S2 G2 L lh Sh Gh F1 F2 Fh N A t m (u.setCell ⟨w.heap.size + 2, t, none⟩ (.int .i64 m)) := by
  refine ⟨h.two.other (by omega) _ _, h.ls.other (by omega) _ _, (h.lst.set ht (m : Int)).congr fun i hi => ?_⟩
  by_cases e : i = t
  · subst e; rw [if_pos rfl, if_neg (Nat.lt_irrefl _), if_pos rfl]
  · rw [if_neg e, if_neg e, if_neg e]
end

end Go.Proofs.Ythljhddnfflpjaa
