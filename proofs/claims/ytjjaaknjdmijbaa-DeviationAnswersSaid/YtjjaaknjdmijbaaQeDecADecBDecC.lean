/- The pair of a deconvolution: its block, a gain, a list of values, whether there is a bound, the extent. By the verifier's side. -/
import Derived.Test.YtjjaaknjdmijbaaQePwEToRowF
import Derived.BigRegion
import Derived.Test.YtjjaaknjdmijbaaQePwMPwOPwXR56MConMNDecM
import Derived.Deep.LoopGhost
import Derived.Test.YtjjaaknjdmijbaaQeRefVRefA
namespace Go.Proofs.Ytjjaaknjdmijbaa
open Go.RowKit
set_option linter.unusedSimpArgs false
set_option linter.unusedVariables false

/-- Block b holds two curves, two lists and two numbers, and may be written. -/
structure Pd (w : World) (b : Nat) (x0 x1 x2 y0 y1 y2 l0 l1 n0 n1 : Value) : Prop where
  lo : Cur3 w b x0 x1 x2
  c3 : w.cell? ⟨b, 3, none⟩ = some y0
  c4 : w.cell? ⟨b, 4, none⟩ = some y1
  c5 : w.cell? ⟨b, 5, none⟩ = some y2
  c6 : w.cell? ⟨b, 6, none⟩ = some l0
  c7 : w.cell? ⟨b, 7, none⟩ = some l1
  c8 : w.cell? ⟨b, 8, none⟩ = some n0
  c9 : w.cell? ⟨b, 9, none⟩ = some n1
  f3 : w.frozen? ⟨b, 3, none⟩ = false
  f4 : w.frozen? ⟨b, 4, none⟩ = false
  f5 : w.frozen? ⟨b, 5, none⟩ = false
  f6 : w.frozen? ⟨b, 6, none⟩ = false
  f7 : w.frozen? ⟨b, 7, none⟩ = false
  f8 : w.frozen? ⟨b, 8, none⟩ = false
  f9 : w.frozen? ⟨b, 9, none⟩ = false
section
variable {w w' : World} {b : Nat} {x0 x1 x2 y0 y1 y2 l0 l1 n0 n1 : Value}
theorem Pd.lt (h : Pd w b x0 x1 x2 y0 y1 y2 l0 l1 n0 n1) : b < w.heap.size := h.lo.lt
theorem Pd.below (h : Pd w b x0 x1 x2 y0 y1 y2 l0 l1 n0 n1) (hb : Below w.heap.size w w') : Pd w' b x0 x1 x2 y0 y1 y2 l0 l1 n0 n1 :=
  ⟨h.lo.below hb, (hb.cell (p := ⟨b, 3, none⟩) h.lt).trans h.c3, (hb.cell (p := ⟨b, 4, none⟩) h.lt).trans h.c4, (hb.cell (p := ⟨b, 5, none⟩) h.lt).trans h.c5, (hb.cell (p := ⟨b, 6, none⟩) h.lt).trans h.c6, (hb.cell (p := ⟨b, 7, none⟩) h.lt).trans h.c7, (hb.cell (p := ⟨b, 8, none⟩) h.lt).trans h.c8, (hb.cell (p := ⟨b, 9, none⟩) h.lt).trans h.c9,
    (hb.frozen (p := ⟨b, 3, none⟩) h.lt).trans h.f3, (hb.frozen (p := ⟨b, 4, none⟩) h.lt).trans h.f4, (hb.frozen (p := ⟨b, 5, none⟩) h.lt).trans h.f5, (hb.frozen (p := ⟨b, 6, none⟩) h.lt).trans h.f6, (hb.frozen (p := ⟨b, 7, none⟩) h.lt).trans h.f7, (hb.frozen (p := ⟨b, 8, none⟩) h.lt).trans h.f8, (hb.frozen (p := ⟨b, 9, none⟩) h.lt).trans h.f9⟩
theorem Pd.other (h : Pd w b x0 x1 x2 y0 y1 y2 l0 l1 n0 n1) {q : Nat} (hq : ¬ b = q) (i : Nat) (v : Value) : Pd (w.setCell ⟨q, i, none⟩ v) b x0 x1 x2 y0 y1 y2 l0 l1 n0 n1 := by
  have hb : (w.setCell ⟨q, i, none⟩ v).heap[b]? = w.heap[b]? := Below.heap_setCell _ _ _ _ hq
  exact ⟨h.lo.other hq i v, (World.cell?_of_block (w := w) (a := ⟨b, 3, none⟩) hb).trans h.c3, (World.cell?_of_block (w := w) (a := ⟨b, 4, none⟩) hb).trans h.c4, (World.cell?_of_block (w := w) (a := ⟨b, 5, none⟩) hb).trans h.c5, (World.cell?_of_block (w := w) (a := ⟨b, 6, none⟩) hb).trans h.c6, (World.cell?_of_block (w := w) (a := ⟨b, 7, none⟩) hb).trans h.c7, (World.cell?_of_block (w := w) (a := ⟨b, 8, none⟩) hb).trans h.c8, (World.cell?_of_block (w := w) (a := ⟨b, 9, none⟩) hb).trans h.c9,
    (World.frozen?_of_block (w := w) (a := ⟨b, 3, none⟩) hb).trans h.f3, (World.frozen?_of_block (w := w) (a := ⟨b, 4, none⟩) hb).trans h.f4, (World.frozen?_of_block (w := w) (a := ⟨b, 5, none⟩) hb).trans h.f5, (World.frozen?_of_block (w := w) (a := ⟨b, 6, none⟩) hb).trans h.f6, (World.frozen?_of_block (w := w) (a := ⟨b, 7, none⟩) hb).trans h.f7, (World.frozen?_of_block (w := w) (a := ⟨b, 8, none⟩) hb).trans h.f8, (World.frozen?_of_block (w := w) (a := ⟨b, 9, none⟩) hb).trans h.f9⟩
end

/-- The numbers and places that a pair holds. -/
structure PV where
  a1 : Option Addr
  n1 : Nat
  cap1 : Nat
  p1 : Nat
  i1 : Int
  a2 : Option Addr
  n2 : Nat
  cap2 : Nat
  p2 : Nat
  i2 : Int
  la : Nat
  lb : Nat
  L : Nat
  R : Nat
def PV.cells (P : PV) : Array Value := #[.slice P.a1 P.n1 P.cap1, .int .i64 P.p1, .int .i64 P.i1, .slice P.a2 P.n2 P.cap2, .int .i64 P.p2, .int .i64 P.i2, .slice (some ⟨P.la, 0, none⟩) 1040 1040, .slice (some ⟨P.lb, 0, none⟩) P.R P.R, .int .i64 P.L, .int .i64 P.R]
abbrev PdB (w : World) (b : Nat) (P : PV) : Prop :=
  Pd w b (.slice P.a1 P.n1 P.cap1) (.int .i64 P.p1) (.int .i64 P.i1) (.slice P.a2 P.n2 P.cap2) (.int .i64 P.p2) (.int .i64 P.i2) (.slice (some ⟨P.la, 0, none⟩) 1040 1040) (.slice (some ⟨P.lb, 0, none⟩) P.R P.R) (.int .i64 P.L) (.int .i64 P.R)
/-! ## A list of values -/

/-- While the list is filled: up to k. -/
structure LS (w : World) (zs : List Int) (p : Nat) (inc : Int) (a : Option Addr) (n cap B m k : Nat) (u : World) : Prop where
  lst : RowF u (w.heap.size + 1) m (fun i => if i < k then atC zs p inc i else 0)
  cl : ClosP u B a n cap zs p inc
  far : Far B a n (w.heap.size + 1)
  below : Below w.heap.size w u
section
variable {w u v : World} {zs : List Int} {p : Nat} {inc : Int} {a : Option Addr} {n cap B m k : Nat}
theorem LS.call (h : LS w zs p inc a n cap B m k u) (hb : Below u.heap.size u v) : LS w zs p inc a n cap B m k v := ⟨h.lst.under hb, h.cl.under hb, h.far, h.below.trans (hb.mono h.below.size)⟩
end
theorem make_rowD (m : Nat) (hm : m ≤ 4000) (w : World) : (Instr.makeSlice 22 (.int .i64 (m : Int)) (.int .i64 (m : Int))).run Try.prog w = .ok (.slice (some ⟨w.heap.size, 0, none⟩) m m) (w.alloc (.cells (madeCells #[.int .i64 0] m) 3)) := by
  have := run_make_row' (P := Try.prog) 22 3 (.int .i64 0) 8 Try.underlying22 info_int rfl .i64 .i64 m (by omega) (by omega) w
  simpa using this

-- gen_dec
/-- Its lists stand. -/
structure PIn (P : PV) (z1 z2 : List Int) (w : World) : Prop where
  r1 : RowZ w P.a1 P.n1 P.cap1 z1
  r2 : RowZ w P.a2 P.n2 P.cap2 z2
  f : RowF w P.la 1040 (atC z1 P.p1 P.i1)
  s : RowF w P.lb P.R (atC z2 P.p2 P.i2)
theorem PIn.under {P : PV} {z1 z2 : List Int} {w v : World} (h : PIn P z1 z2 w) (hb : Below w.heap.size w v) : PIn P z1 z2 v := ⟨h.r1.under hb, h.r2.under hb, h.f.under hb, h.s.under hb⟩
/-- While the pair and a curve stand in two boxes. -/
structure TwoH (w : World) (P : PV) (z1 z2 : List Int) (ha : Option Addr) (hn hcap : Nat) (hs : List Int) (r : Nat) (knc : Int) (u : World) : Prop where
  pr : PdB u w.heap.size P
  hc : Cur3 u (w.heap.size + 1) (.slice ha hn hcap) (.int .i64 r) (.int .i64 knc)
  hr : RowZ u ha hn hcap hs
  i : PIn P z1 z2 u
  below : Below w.heap.size w u
theorem TwoH.call {w u v : World} {P : PV} {z1 z2 : List Int} {ha : Option Addr} {hn hcap : Nat} {hs : List Int} {r : Nat} {knc : Int} (h : TwoH w P z1 z2 ha hn hcap hs r knc u) (hb : Below u.heap.size u v) : TwoH w P z1 z2 ha hn hcap hs r knc v := ⟨h.pr.below hb, h.hc.below hb, h.hr.under hb, h.i.under hb, h.below.trans (hb.mono h.below.size)⟩
end Go.Proofs.Ytjjaaknjdmijbaa

namespace Go.Proofs.Ytjjaaknjdmijbaa
open Go.RowKit
set_option linter.unusedSimpArgs false
set_option linter.unusedVariables false

/-- What a pair holds lies in old blocks. -/
structure PFar (P : PV) (B : Nat) : Prop where
  f1 : ∀ x, P.a1 = some x → 1 ≤ P.n1 → x.block < B
  f2 : ∀ x, P.a2 = some x → 1 ≤ P.n2 → x.block < B
  la : P.la < B
  lb : P.lb < B
theorem PIn.far {P : PV} {z1 z2 : List Int} {w : World} (h : PIn P z1 z2 w) : PFar P w.heap.size := ⟨fun x a b => h.r1.far x a b, fun x a b => h.r2.far x a b, h.f.lt, h.s.lt⟩
theorem PIn.other {P : PV} {z1 z2 : List Int} {w : World} (h : PIn P z1 z2 w) {B b : Nat} (hf : PFar P B) (hb : B ≤ b) (i : Nat) (v : Value) : PIn P z1 z2 (w.setCell ⟨b, i, none⟩ v) := by
  have := hf.la; have := hf.lb
  exact ⟨h.r1.store (fun x hx hn => by have := hf.f1 x hx hn; omega) _ _, h.r2.store (fun x hx hn => by have := hf.f2 x hx hn; omega) _ _, h.f.other (by omega) _ _, h.s.other (by omega) _ _⟩

/-- While the bounds are listed: lv the values, la the places; at the tick t so far x and k. -/
structure BD (w : World) (P : PV) (z1 z2 : List Int) (V : Nat → Int) (A : Nat → Nat) (N lv la t : Nat) (x : Int) (k : Nat) (u : World) : Prop where
  pr : PdB u w.heap.size P
  i : PIn P z1 z2 u
  far : PFar P w.heap.size
  vs : RowF u lv N (fun i => if i < t then V i else if i = t then x else 0)
  ats : RowF u la N (fun i => if i < t then ((A i : Nat) : Int) else if i = t then ((k : Nat) : Int) else 0)
  ne : ¬ lv = la
  l1 : w.heap.size < lv
  l2 : w.heap.size < la
  below : Below w.heap.size w u
section
variable {w u v : World} {P : PV} {z1 z2 : List Int} {V : Nat → Int} {A : Nat → Nat} {N lv la t : Nat} {x : Int} {k : Nat}
theorem BD.call (h : BD w P z1 z2 V A N lv la t x k u) (hb : Below u.heap.size u v) : BD w P z1 z2 V A N lv la t x k v :=
  ⟨h.pr.below hb, h.i.under hb, h.far, h.vs.under hb, h.ats.under hb, h.ne, h.l1, h.l2, h.below.trans (hb.mono h.below.size)⟩
theorem BD.put (h : BD w P z1 z2 V A N lv la t x k u) (ht : t < N) (y : Int) (m : Nat) : BD w P z1 z2 V A N lv la t y m ((u.setCell ⟨lv, t, none⟩ (.int .i64 y)).setCell ⟨la, t, none⟩ (.int .i64 m)) := by
  have l1 := h.l1
  have l2 := h.l2
  have hne := h.ne
  refine ⟨(h.pr.other (by omega) _ _).other (by omega) _ _, (h.i.other h.far (by omega) _ _).other h.far (by omega) _ _, h.far, ((h.vs.set ht y).other hne _ _).congr fun i hi => ?_, ((h.ats.other (fun e => hne e.symm) _ _).set ht (m : Int)).congr fun i hi => ?_, h.ne, h.l1, h.l2, (h.below.setCell (p := ⟨lv, t, none⟩) (by show w.heap.size ≤ lv; omega) _).setCell (p := ⟨la, t, none⟩) (by show w.heap.size ≤ la; omega) _⟩
  all_goals
    by_cases e : i = t
    · subst e; rw [if_pos rfl, if_neg (Nat.lt_irrefl _), if_pos rfl]
    · rw [if_neg e, if_neg e, if_neg e]
theorem BD.start (hp : PdB u w.heap.size P) (hi : PIn P z1 z2 u) (hf : PFar P w.heap.size) (h1 : RowF u lv N (fun _ => 0)) (h2 : RowF u la N (fun _ => 0)) (hne : ¬ lv = la) (l1 : w.heap.size < lv) (l2 : w.heap.size < la) (hb : Below w.heap.size w u) : BD w P z1 z2 V A N lv la 0 0 0 u :=
  ⟨hp, hi, hf, h1.congr fun i _ => by rw [if_neg (Nat.not_lt_zero _), ite_self], h2.congr fun i _ => by rw [if_neg (Nat.not_lt_zero _)]; simp, hne, l1, l2, hb⟩
end
/-- What stands before the lists are made. -/
structure BD0 (w : World) (P : PV) (z1 z2 : List Int) (u : World) : Prop where
  pr : PdB u w.heap.size P
  i : PIn P z1 z2 u
  below : Below w.heap.size w u
theorem BD0.call {w u v : World} {P : PV} {z1 z2 : List Int} (h : BD0 w P z1 z2 u) (hb : Below u.heap.size u v) : BD0 w P z1 z2 v := ⟨h.pr.below hb, h.i.under hb, h.below.trans (hb.mono h.below.size)⟩

end Go.Proofs.Ytjjaaknjdmijbaa

namespace Go.Proofs.Ytjjaaknjdmijbaa
open Go.RowKit
set_option linter.unusedSimpArgs false
set_option linter.unusedVariables false

section
variable {w w' : World} {b : Nat} {x0 x1 x2 y0 y1 y2 l0 l1 n0 n1 : Value}
end

/-- While the pair is made: the boxes of both curves, of the result, and (in the block pb) of the pair; the pair's curves lie behind it. -/
structure SF (w : World) (a1 : Option Addr) (n1 cap1 p1 : Nat) (i1 : Int) (z1 : List Int) (a2 : Option Addr) (n2 cap2 p2 : Nat) (i2 : Int) (z2 : List Int) (u : World) : Prop where
  c1 : Cur3 u w.heap.size (.slice a1 n1 cap1) (.int .i64 p1) (.int .i64 i1)
  c2 : Cur3 u (w.heap.size + 1) (.slice a2 n2 cap2) (.int .i64 p2) (.int .i64 i2)
  res : Pd u (w.heap.size + 2) (.slice none 0 0) (.int .i64 0) (.int .i64 0) (.slice none 0 0) (.int .i64 0) (.int .i64 0) (.slice none 0 0) (.slice none 0 0) (.int .i64 0) (.int .i64 0)
  r1 : RowZ u a1 n1 cap1 z1
  r2 : RowZ u a2 n2 cap2 z2
  f1 : ∀ x, a1 = some x → 1 ≤ n1 → x.block < w.heap.size
  f2 : ∀ x, a2 = some x → 1 ≤ n2 → x.block < w.heap.size
  below : Below w.heap.size w u
section
variable {w u v : World} {a1 : Option Addr} {n1 cap1 p1 : Nat} {i1 : Int} {z1 : List Int} {a2 : Option Addr} {n2 cap2 p2 : Nat} {i2 : Int} {z2 : List Int}
theorem SF.call (h : SF w a1 n1 cap1 p1 i1 z1 a2 n2 cap2 p2 i2 z2 u) (hb : Below u.heap.size u v) : SF w a1 n1 cap1 p1 i1 z1 a2 n2 cap2 p2 i2 z2 v :=
  ⟨h.c1.below hb, h.c2.below hb, h.res.below hb, h.r1.under hb, h.r2.under hb, h.f1, h.f2, h.below.trans (hb.mono h.below.size)⟩
theorem SF.other (h : SF w a1 n1 cap1 p1 i1 z1 a2 n2 cap2 p2 i2 z2 u) {b : Nat} (hb : w.heap.size + 2 < b) (i : Nat) (v : Value) : SF w a1 n1 cap1 p1 i1 z1 a2 n2 cap2 p2 i2 z2 (u.setCell ⟨b, i, none⟩ v) :=
  ⟨h.c1.other (by omega) _ _, h.c2.other (by omega) _ _, h.res.other (by omega) _ _, h.r1.store (fun x h1 h2 => by have := h.f1 x h1 h2; omega) _ _, h.r2.store (fun x h1 h2 => by have := h.f2 x h1 h2; omega) _ _, h.f1, h.f2, h.below.setCell (p := ⟨b, i, none⟩) (by show w.heap.size ≤ b; omega) v⟩
end

/-- While the pair in the block pb is filled: what it holds, and the rows of its curves, which lie behind it. -/
structure SN (w : World) (pb : Nat) (P : PV) (z1 z2 : List Int) (l0 l1 n0 n1 : Value) (u : World) : Prop where
  res : Pd u (w.heap.size + 2) (.slice none 0 0) (.int .i64 0) (.int .i64 0) (.slice none 0 0) (.int .i64 0) (.int .i64 0) (.slice none 0 0) (.slice none 0 0) (.int .i64 0) (.int .i64 0)
  pr : Pd u pb (.slice P.a1 P.n1 P.cap1) (.int .i64 P.p1) (.int .i64 P.i1) (.slice P.a2 P.n2 P.cap2) (.int .i64 P.p2) (.int .i64 P.i2) l0 l1 n0 n1
  r1 : RowZ u P.a1 P.n1 P.cap1 z1
  r2 : RowZ u P.a2 P.n2 P.cap2 z2
  f1 : ∀ x, P.a1 = some x → pb < x.block
  f2 : ∀ x, P.a2 = some x → pb < x.block
  hp : w.heap.size + 2 < pb
  below : Below w.heap.size w u
section
variable {w u v : World} {pb : Nat} {P : PV} {z1 z2 : List Int} {l0 l1 n0 n1 : Value}
theorem SN.call (h : SN w pb P z1 z2 l0 l1 n0 n1 u) (hb : Below u.heap.size u v) : SN w pb P z1 z2 l0 l1 n0 n1 v :=
  ⟨h.res.below hb, h.pr.below hb, h.r1.under hb, h.r2.under hb, h.f1, h.f2, h.hp, h.below.trans (hb.mono h.below.size)⟩
end

end Go.Proofs.Ytjjaaknjdmijbaa
