/- Of the document's convolution: plus, start, finite, grows, slope, repeats. By the verifier's side. -/
import Derived.Test.YtjjaaknjdmijbaaQdR5D
import Derived.Test.YtjjaaknjdmijbaaQdConMN
import Derived.BigRegion
import Derived.Test.YtjjaaknjdmijbaaQdLong
import Derived.Test.YtjjaaknjdmijbaaQdDecADecBDecC
import Derived.Test.YtjjaaknjdmijbaaQdRefA
import Derived.Test.YtjjaaknjdmijbaaQdDecM
import Derived.Test.YtjjaaknjdmijbaaQdConER
import Derived.Test.YtjjaaknjdmijbaaQdPwEToRowF
import Derived.Test.YtjjaaknjdmijbaaQdBentE
import Derived.Test.YtjjaaknjdmijbaaQdBaseApartPickKeepS
namespace Go.Proofs.Ytjjaaknjdmijbaa
open Go.RowKit
set_option linter.unusedSimpArgs false
set_option linter.unusedVariables false

/-- Two curves in the call's first two boxes. -/
structure C2 (w : World) (a1 : Option Addr) (n1 cap1 : Nat) (z1 : List Int) (p1 : Nat) (i1 : Int) (a2 : Option Addr) (n2 cap2 : Nat) (z2 : List Int) (p2 : Nat) (i2 : Int) (u : World) : Prop where
  f : Bx u w.heap.size a1 n1 cap1 p1 i1 z1
  g : Bx u (w.heap.size + 1) a2 n2 cap2 p2 i2 z2
  below : Below w.heap.size w u
theorem C2.call {w u v : World} {a1 : Option Addr} {n1 cap1 : Nat} {z1 : List Int} {p1 : Nat} {i1 : Int} {a2 : Option Addr} {n2 cap2 : Nat} {z2 : List Int} {p2 : Nat} {i2 : Int} (k : C2 w a1 n1 cap1 z1 p1 i1 a2 n2 cap2 z2 p2 i2 u) (hb : Below u.heap.size u v) : C2 w a1 n1 cap1 z1 p1 i1 a2 n2 cap2 z2 p2 i2 v := ⟨k.f.under hb, k.g.under hb, k.below.trans (hb.mono k.below.size)⟩
end Go.Proofs.Ytjjaaknjdmijbaa

namespace Go.Proofs.Ytjjaaknjdmijbaa
open Go.RowKit
set_option linter.unusedSimpArgs false
set_option linter.unusedVariables false

/-- A list that grows value by value in the block g, in the box B; both are younger than W. -/
structure Aq (W : World) (B : Nat) (p inc : Int) (f : Nat → Int) (k g cap : Nat) (u : World) : Prop where
  below : Below W.heap.size W u
  out : Cur3 u B (.slice (some ⟨g, 0, none⟩) k cap) (.int .i64 p) (.int .i64 inc)
  own : u.ownsRow W.heap.size 3 1 (.slice (some ⟨g, 0, none⟩) k cap) k ((firsts f k).map (Value.int .i64))
  hB : W.heap.size ≤ B
  ne : ¬ g = B
theorem owns_below {w w' : World} {base : Nat} {v : Value} {k : Nat} {xs : List Value} (h : w.ownsRow base 3 1 v k xs) (ha : Below w.heap.size w w') : w'.ownsRow base 3 1 v k xs := by
  obtain ⟨hl, hr⟩ := h
  refine ⟨hl, ?_⟩
  rcases hr with h0 | ⟨g, cap, cur, hv, hbase, hg, h1, h2, h3, h4⟩
  · exact .inl h0
  · refine .inr ⟨g, cap, cur, hv, hbase, ?_, h1, h2, h3, h4⟩
    have hlt : g < w.heap.size := by
      rcases Nat.lt_or_ge g w.heap.size with h' | h'
      · exact h'
      · rw [Array.getElem?_eq_none h'] at hg; cases hg
    exact (ha.block g hlt).trans hg
theorem Aq.under {W : World} {B : Nat} {p inc : Int} {f : Nat → Int} {k g cap : Nat} {u v : World} (h : Aq W B p inc f k g cap u) (hb : Below u.heap.size u v) : Aq W B p inc f k g cap v :=
  ⟨h.below.trans (hb.mono h.below.size), h.out.below hb, owns_below h.own hb, h.hB, h.ne⟩
theorem Aq.alloc {W : World} {B : Nat} {p inc : Int} {f : Nat → Int} {k g cap : Nat} {u : World} (h : Aq W B p inc f k g cap u) (o : Obj) : Aq W B p inc f k g cap (u.alloc o) := h.under ((Below.refl _ _).alloc (Nat.le_refl _) o)
theorem Aq.drew {W : World} {B : Nat} {p inc : Int} {f : Nat → Int} {k g cap : Nat} {u : World} (h : Aq W B p inc f k g cap u) : Aq W B p inc f k g cap u.drew := h.under (Below.refl _ _).drew
theorem Aq.push {W : World} {B : Nat} {p inc : Int} {f : Nat → Int} {k g cap g' cap' : Nat} {u v : World} (h : Aq W B p inc f k g cap u) {z : Int} (hown : v.ownsRow W.heap.size 3 1 (.slice (some ⟨g', 0, none⟩) (k + 1) cap') (k + 1) ((firsts f k).map (Value.int .i64) ++ [Value.int .i64 z])) (hg : u.grownBy v (Value.slice (some ⟨g, 0, none⟩) k cap).ownBlock) (hat : g' = g ∨ g' = u.heap.size) (hz : f k = z) :
    Aq W B p inc f (k + 1) g' cap' (v.setCell ⟨B, 0, none⟩ (.slice (some ⟨g', 0, none⟩) (k + 1) cap')) ∧ Cur3 v B (.slice (some ⟨g, 0, none⟩) k cap) (.int .i64 p) (.int .i64 inc) := by
  have hc : Cur3 v B (.slice (some ⟨g, 0, none⟩) k cap) (.int .i64 p) (.int .i64 inc) := h.out.grownS hg h.ne
  have hne : ¬ g' = B := by
    rcases hat with rfl | rfl
    · exact h.ne
    · have := h.out.lt; omega
  have hlow := (h.own.lt g rfl).1
  refine ⟨⟨((h.below.grown hg h.below.size (fun j hj => by cases hj; exact hlow)).setCell (p := ⟨B, 0, none⟩) h.hB _), hc.set0 _, ?_, h.hB, hne⟩, hc⟩
  rw [firsts_succ, List.map_append, hz]
  exact owns_ne hown (p := ⟨B, 0, none⟩) hne _
theorem Aq.row {W : World} {B : Nat} {p inc : Int} {f : Nat → Int} {k g cap : Nat} {u : World} (h : Aq W B p inc f k g cap u) (hk : k ≤ 100000) (hb : ∀ t, t < k → In64 (f t)) : RowZ u (some ⟨g, 0, none⟩) k cap (firsts f k) := by
  obtain ⟨a9, c9, hv9, R9, _⟩ := rowZ_of_owns h.own (by omega) (fun i hi => by rw [firsts_length] at hi; rw [firsts_getD _ _ _ hi]; exact hb i hi)
  cases hv9
  exact R9
end Go.Proofs.Ytjjaaknjdmijbaa

namespace Go.Proofs.Ytjjaaknjdmijbaa
open Go.RowKit
set_option linter.unusedSimpArgs false
set_option linter.unusedVariables false

/-- Block b holds a certificate. -/
structure G4 (w : World) (b : Nat) (x0 x1 x2 x3 : Value) : Prop where
  lo : Cur3 w b x0 x1 x2
  c3 : w.cell? ⟨b, 3, none⟩ = some x3
  f3 : w.frozen? ⟨b, 3, none⟩ = false
theorem G4.below {w w' : World} {b : Nat} {x0 x1 x2 x3 : Value} (h : G4 w b x0 x1 x2 x3) (hb : Below w.heap.size w w') : G4 w' b x0 x1 x2 x3 :=
  ⟨h.lo.below hb, (hb.cell (p := ⟨b, 3, none⟩) h.lo.lt).trans h.c3, (hb.frozen (p := ⟨b, 3, none⟩) h.lo.lt).trans h.f3⟩
theorem g4_new (w : World) (x0 x1 x2 x3 : Value) (t : TypeId) : G4 (w.alloc (.cells #[x0, x1, x2, x3] t)) w.heap.size x0 x1 x2 x3 :=
  ⟨⟨by go_simp, by go_simp, by go_simp, by go_simp, by go_simp, by go_simp⟩, by go_simp, by go_simp⟩
theorem G4.set4 {w : World} {b : Nat} {x0 x1 x2 x3 : Value} (h : G4 w b x0 x1 x2 x3) (y0 y1 y2 y3 : Value) : G4 ((((w.setCell ⟨b, 0, none⟩ y0).setCell ⟨b, 1, none⟩ y1).setCell ⟨b, 2, none⟩ y2).setCell ⟨b, 3, none⟩ y3) b y0 y1 y2 y3 := by
  obtain ⟨⟨c0, c1, c2, f0, f1, f2⟩, c3, f3⟩ := h
  exact ⟨⟨by go_simp, by go_simp, by go_simp, by go_simp, by go_simp, by go_simp⟩, by go_simp, by go_simp⟩
/-- What stands ahead of the last statement. -/
structure PS (w : World) (P : PV) (y1 y2 : List Int) (pb rb la N : Nat) (F : Nat → Int) (a5 : Option Addr) (n5 cap5 : Nat) (p5 : Nat) (inc5 : Int) (zs5 : List Int) (u : World) : Prop where
  bx : Bx u rb a5 n5 cap5 p5 inc5 zs5
  pr : PdB u pb P
  kr : G4 u (w.heap.size + 2) (.slice none 0 0) (.int .i64 0) (.int .i64 0) (.slice none 0 0)
  i : PIn P y1 y2 u
  ra : RowF u la N F
  below : Below w.heap.size w u
section
variable {w u v : World} {P : PV} {y1 y2 : List Int} {pb rb la N : Nat} {F : Nat → Int} {a5 : Option Addr} {n5 cap5 p5 : Nat} {inc5 : Int} {zs5 : List Int}
theorem PS.call (h : PS w P y1 y2 pb rb la N F a5 n5 cap5 p5 inc5 zs5 u) (hb : Below u.heap.size u v) : PS w P y1 y2 pb rb la N F a5 n5 cap5 p5 inc5 zs5 v :=
  ⟨h.bx.under hb, h.pr.below hb, h.kr.below hb, h.i.under hb, h.ra.under hb, h.below.trans (hb.mono h.below.size)⟩
end

end Go.Proofs.Ytjjaaknjdmijbaa

namespace Go.Proofs.Ytjjaaknjdmijbaa
open Go.RowKit
set_option linter.unusedSimpArgs false
set_option linter.unusedVariables false

theorem G4.grown {w w' : World} {b : Nat} {x0 x1 x2 x3 : Value} (h : G4 w b x0 x1 x2 x3) {row : Option Nat} (hg : w.grownBy w' row) (hr : ∀ j, row = some j → b < j) : G4 w' b x0 x1 x2 x3 := by
  have hb : w'.heap[b]? = w.heap[b]? := hg.block b h.lo.lt (fun e => by have := hr b e.symm; omega)
  exact ⟨h.lo.grown hg hr, (World.cell?_of_block (w := w) (a := ⟨b, 3, none⟩) hb).trans h.c3, (World.frozen?_of_block (w := w) (a := ⟨b, 3, none⟩) hb).trans h.f3⟩
theorem G4.set3 {w : World} {b : Nat} {x0 x1 x2 x3 : Value} (h : G4 w b x0 x1 x2 x3) (y3 : Value) : G4 (w.setCell ⟨b, 3, none⟩ y3) b x0 x1 x2 y3 := by
  obtain ⟨⟨c0, c1, c2, f0, f1, f2⟩, c3, f3⟩ := h
  exact ⟨⟨by go_simp, by go_simp, by go_simp, by go_simp, by go_simp, by go_simp⟩, by go_simp, by go_simp⟩
/-- A certificate's list that grows value by value, in a box behind W. -/
structure Ag (W : World) (a : Option Addr) (n cap : Nat) (p inc : Int) (f : Nat → Int) (k : Nat) (sv : Value) (u : World) : Prop where
  below : Below W.heap.size W u
  out : G4 u W.heap.size (.slice a n cap) (.int .i64 p) (.int .i64 inc) sv
  own : u.ownsRow (W.heap.size + 1) 3 1 sv k ((firsts f k).map (Value.int .i64))
section
variable {W u v : World} {a : Option Addr} {n cap : Nat} {p inc : Int} {f : Nat → Int} {k : Nat} {sv : Value}
theorem Ag.start (W : World) (a : Option Addr) (n cap : Nat) (p inc : Int) (f : Nat → Int) : Ag W a n cap p inc f 0 (.slice none 0 0) (W.alloc (.cells #[.slice a n cap, .int .i64 p, .int .i64 inc, .slice none 0 0] 50)) :=
  ⟨below_box _, g4_new W _ _ _ _ _, World.ownsRow_nil _ _ _ _⟩
theorem Ag.under (h : Ag W a n cap p inc f k sv u) (hb : Below u.heap.size u v) : Ag W a n cap p inc f k sv v :=
  ⟨h.below.trans (hb.mono h.below.size), h.out.below hb, owns_apart h.own (below_apart (b := W.heap.size) hb) (by omega)⟩
theorem Ag.push {v' : Value} (h : Ag W a n cap p inc f k sv u) {z : Int} (hown : v.ownsRow (W.heap.size + 1) 3 1 v' (k + 1) ((firsts f k).map (Value.int .i64) ++ [Value.int .i64 z])) (hg : u.grownBy v sv.ownBlock) (hz : f k = z) :
    Ag W a n cap p inc f (k + 1) v' (v.setCell ⟨W.heap.size, 3, none⟩ v') ∧ G4 v W.heap.size (.slice a n cap) (.int .i64 p) (.int .i64 inc) sv := by
  have hrow : ∀ j, sv.ownBlock = some j → W.heap.size + 1 ≤ j := fun j hj => (h.own.lt j hj).1
  have hc := h.out.grown hg (fun j hj => by have := hrow j hj; omega)
  refine ⟨⟨(h.below.grown hg h.below.size (fun j hj => by have := hrow j hj; omega)).setCell (p := ⟨W.heap.size, 3, none⟩) (Nat.le_refl _) v', hc.set3 v', ?_⟩, hc⟩
  rw [firsts_succ, List.map_append, hz]
  exact owns_set hown (p := ⟨W.heap.size, 3, none⟩) (Nat.lt_succ_self _) _
theorem Ag.row (h : Ag W a n cap p inc f k sv u) (h1 : 1 ≤ k) (hk : k ≤ 100000) (hb : ∀ t, t < k → In64 (f t)) : ∃ g c, sv = .slice (some ⟨g, 0, none⟩) k c ∧ RowZ u (some ⟨g, 0, none⟩) k c (firsts f k) ∧ W.heap.size < g := by
  obtain ⟨g, c, rfl, hg, hg'⟩ := h.own.form (by omega)
  obtain ⟨a9, c9, hv9, R9, X9⟩ := rowZ_of_owns h.own (by omega) (fun i hi => by rw [firsts_length] at hi; rw [firsts_getD _ _ _ hi]; exact hb i hi)
  cases hv9
  exact ⟨g, c, rfl, R9, by have := X9 _ rfl; show W.heap.size + 1 ≤ g; exact this⟩
end
end Go.Proofs.Ytjjaaknjdmijbaa

namespace Go.Proofs.Ytjjaaknjdmijbaa
open Go.RowKit
set_option linter.unusedSimpArgs false
set_option linter.unusedVariables false

/-- Three curves in the call's first boxes. -/
structure C3 (w : World) (a1 : Option Addr) (n1 cap1 : Nat) (z1 : List Int) (p1 : Nat) (i1 : Int) (a2 : Option Addr) (n2 cap2 : Nat) (z2 : List Int) (p2 : Nat) (i2 : Int) (a3 : Option Addr) (n3 cap3 : Nat) (z3 : List Int) (p3 : Nat) (i3 : Int) (u : World) : Prop where
  f : Bx u w.heap.size a1 n1 cap1 p1 i1 z1
  g : Bx u (w.heap.size + 1) a2 n2 cap2 p2 i2 z2
  h : Bx u (w.heap.size + 1 + 1) a3 n3 cap3 p3 i3 z3
  below : Below w.heap.size w u
theorem C3.call {w u v : World} {a1 : Option Addr} {n1 cap1 : Nat} {z1 : List Int} {p1 : Nat} {i1 : Int} {a2 : Option Addr} {n2 cap2 : Nat} {z2 : List Int} {p2 : Nat} {i2 : Int} {a3 : Option Addr} {n3 cap3 : Nat} {z3 : List Int} {p3 : Nat} {i3 : Int} (k : C3 w a1 n1 cap1 z1 p1 i1 a2 n2 cap2 z2 p2 i2 a3 n3 cap3 z3 p3 i3 u) (hb : Below u.heap.size u v) : C3 w a1 n1 cap1 z1 p1 i1 a2 n2 cap2 z2 p2 i2 a3 n3 cap3 z3 p3 i3 v := ⟨k.f.under hb, k.g.under hb, k.h.under hb, k.below.trans (hb.mono k.below.size)⟩
end Go.Proofs.Ytjjaaknjdmijbaa

namespace Go.Proofs.Ytjjaaknjdmijbaa
open Go.RowKit
set_option linter.unusedSimpArgs false
set_option linter.unusedVariables false

section
variable {z1 z2 : List Int} {p1 p2 : Nat} {i1 i2 : Int}
end

/-- The three curves' boxes at the end of guess. -/
structure GQ (w : World) (O : Nat) (a1 : Option Addr) (n1 cap1 : Nat) (z1 : List Int) (p1 : Nat) (i1 : Int) (a2 : Option Addr) (n2 cap2 : Nat) (z2 : List Int) (p2 : Nat) (i2 : Int) (a9 : Option Addr) (n9 cap9 : Nat) (z9 : List Int) (p9 : Nat) (i9 : Int) (u : World) : Prop where
  f : Bx u w.heap.size a1 n1 cap1 p1 i1 z1
  g : Bx u (w.heap.size + 1) a2 n2 cap2 p2 i2 z2
  h : Bx u O a9 n9 cap9 p9 i9 z9
theorem GQ.call {w u v : World} {O : Nat} {a1 : Option Addr} {n1 cap1 : Nat} {z1 : List Int} {p1 : Nat} {i1 : Int} {a2 : Option Addr} {n2 cap2 : Nat} {z2 : List Int} {p2 : Nat} {i2 : Int} {a9 : Option Addr} {n9 cap9 : Nat} {z9 : List Int} {p9 : Nat} {i9 : Int} (k : GQ w O a1 n1 cap1 z1 p1 i1 a2 n2 cap2 z2 p2 i2 a9 n9 cap9 z9 p9 i9 u) (hb : Below u.heap.size u v) : GQ w O a1 n1 cap1 z1 p1 i1 a2 n2 cap2 z2 p2 i2 a9 n9 cap9 z9 p9 i9 v := ⟨k.f.under hb, k.g.under hb, k.h.under hb⟩

end Go.Proofs.Ytjjaaknjdmijbaa

namespace Go.Proofs.Ytjjaaknjdmijbaa
open Go.RowKit
set_option linter.unusedSimpArgs false
set_option linter.unusedVariables false

/-- What stands in Of: the normal forms, and the result's box. -/
structure OG (w : World) (A : Nat) (b1 : Option Addr) (m1 c1 : Nat) (y1 : List Int) (q1 : Nat) (j1 : Int) (b2 : Option Addr) (m2 c2 : Nat) (y2 : List Int) (q2 : Nat) (j2 : Int) (u : World) : Prop where
  xa : Bx u A b1 m1 c1 q1 j1 y1
  xb : Bx u (A + 1) b2 m2 c2 q2 j2 y2
  res : Cur3 u (w.heap.size + 2) (.slice none 0 0) (.int .i64 0) (.int .i64 0)
  below : Below w.heap.size w u
section
variable {w u v : World} {A : Nat} {b1 : Option Addr} {m1 c1 : Nat} {y1 : List Int} {q1 : Nat} {j1 : Int} {b2 : Option Addr} {m2 c2 : Nat} {y2 : List Int} {q2 : Nat} {j2 : Int}
theorem OG.call (h : OG w A b1 m1 c1 y1 q1 j1 b2 m2 c2 y2 q2 j2 u) (hb : Below u.heap.size u v) : OG w A b1 m1 c1 y1 q1 j1 b2 m2 c2 y2 q2 j2 v := ⟨h.xa.under hb, h.xb.under hb, h.res.below hb, h.below.trans (hb.mono h.below.size)⟩
end

section
variable (a1 : Option Addr) (n1 cap1 : Nat) (z1 : List Int) (p1 : Nat) (i1 : Int) (g1 : Good z1 p1 i1) (a2 : Option Addr) (n2 cap2 : Nat) (z2 : List Int) (p2 : Nat) (i2 : Int) (g2 : Good z2 p2 i2) (h1 : Day (eC z1 p1 i1)) (h2 : Day (eC z2 p2 i2))
    (w : World) (r1 : RowZ w a1 n1 cap1 z1) (r2 : RowZ w a2 n2 cap2 z2)
include g1 g2 h1 h2 r1 r2
end

end Go.Proofs.Ytjjaaknjdmijbaa

namespace Go.Proofs.Ytjjaaknjdmijbaa
open Go.RowKit
set_option linter.unusedSimpArgs false
set_option linter.unusedVariables false

/-- Of the pair only the error is told. -/
def GivesP8E (c : Int) (w : World) (e : Ending) (w' : World) : Prop :=
  ∃ (a1 : Option Addr) (n1 c1 : Nat) (q1 j1 : Int) (a2 : Option Addr) (n2 c2 : Nat) (q2 j2 : Int) (l : Int), e = .returned (.tuple #[curV a1 n1 c1 q1 j1, curV a2 n2 c2 q2 j2, .int .i64 l, .int .i64 c]) ∧ Below w.heap.size w w'
theorem GivesP8E.post {w w3 : World} {s A B : Nat} (hs : w.heap.size = s) (hB : Below s w w3) (hA : A = s + 2) (hB2 : B = s + 3) {c l : Int} {b1 : Option Addr} {m1 c1 : Nat} {q1 : Int} {j1 : Int} {b2 : Option Addr} {m2 c2 : Nat} {q2 : Int} {j2 : Int} :
    GivesP8E c w (.returned (.tuple #[curV b1 m1 c1 q1 j1, curV b2 m2 c2 q2 j2, .int .i64 l, .int .i64 c])) (((((((w3.setCell ⟨A, 0, none⟩ (.slice b1 m1 c1)).setCell ⟨A, 1, none⟩ (.int .i64 q1)).setCell ⟨A, 2, none⟩ (.int .i64 j1)).setCell ⟨B, 0, none⟩ (.slice b2 m2 c2)).setCell ⟨B, 1, none⟩ (.int .i64 q2)).setCell ⟨B, 2, none⟩ (.int .i64 j2)).drew) := by
  subst hs hA hB2
  exact ⟨_, _, _, _, _, _, _, _, _, _, _, rfl, (below_set3 (below_set3 hB (by omega) _ _ _) (by omega) _ _ _).drew⟩

end Go.Proofs.Ytjjaaknjdmijbaa

namespace Go.Proofs.Ytjjaaknjdmijbaa
open Go.RowKit
set_option linter.unusedSimpArgs false
set_option linter.unusedVariables false

/-- A curve and an error that a call hands back. -/
def GivesCE (zs : List Int) (p inc c : Int) (w : World) (e : Ending) (w' : World) : Prop :=
  ∃ (a : Option Addr) (n cap : Nat), e = .returned (.tuple #[curV a n cap p inc, .int .i64 c]) ∧ Below w.heap.size w w' ∧ RowZ w' a n cap zs ∧ ∀ x, a = some x → w.heap.size ≤ x.block
theorem GivesBad.ce {c : Int} {w w' : World} {e : Ending} (h : GivesBad c w e w') : GivesCE [] 0 0 c w e w' :=
  ⟨none, 0, 0, h.1, h.2, rowZ_none _, fun x hx => by cases hx⟩
theorem GivesE.ce {E : Nat → Option Int} {zs : List Int} {p : Nat} {inc : Int} (hf : EForm zs p inc E) {w w' : World} {e : Ending} (h : GivesE E w e w') : GivesCE zs p inc 0 w e w' := by
  obtain ⟨hb, ⟨a, n, cap, ys, q, jnc, rfl, hr, hk, hx⟩ | ⟨_, hno⟩⟩ := h
  · obtain ⟨rfl, rfl, rfl⟩ := hk.unique hf
    exact ⟨a, n, cap, rfl, hb, hr, hx⟩
  · exact absurd hf.can hno
end Go.Proofs.Ytjjaaknjdmijbaa

namespace Go.Proofs.Ytjjaaknjdmijbaa
open Go.RowKit
set_option linter.unusedSimpArgs false
set_option linter.unusedVariables false

theorem RowF.apart {u v : World} {lb m b : Nat} {F : Nat → Int} (h : RowF u lb m F) (ha : Apart b u v) (hb : ¬ lb = b) : RowF v lb m F := by
  obtain ⟨h1, h2⟩ := acell ha
  exact ⟨Nat.lt_of_lt_of_le h.lt ha.size, fun i hi => ⟨(h1 lb i h.lt hb).trans (h.cell i hi).1, (h2 lb i h.lt hb).trans (h.cell i hi).2⟩⟩
set_option maxRecDepth 100000 in
set_option maxHeartbeats 1600000 in
theorem rvalid_long (a : Option Addr) (n cap : Nat) (p inc : Int) (hn : 400 < n) (w : World) :
    Calls Try.prog 73 #[curV a n cap p inc] w (Says (.bool false) w) := by
  have h1 : (400 : Int) < (n : Int) := by omega
  have h2 : ¬ (n : Int) < 1 := by omega
  go_enter Try.func73, Try.ntmps73
  go_wp2_with fail
  go_ret
  exact ⟨rfl, box_below _ _⟩

end Go.Proofs.Ytjjaaknjdmijbaa
