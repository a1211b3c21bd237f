/- Of the document's deconvolution: Prove. By the verifier's side. -/
import Derived.Test.YtjjaaknjdmijbaaQeRCo1
import Derived.Test.YtjjaaknjdmijbaaQeRefVRefA
import Derived.Test.YtjjaaknjdmijbaaQePwMPwOPwXR56MConMNDecM
import Derived.Test.YtjjaaknjdmijbaaQeConER
import Derived.Test.YtjjaaknjdmijbaaQeRRai
import Derived.Test.YtjjaaknjdmijbaaQeDecD
namespace Go.Proofs.Ytjjaaknjdmijbaa
open Go.RowKit
set_option linter.unusedSimpArgs false
set_option linter.unusedVariables false

theorem G4.grown {w w' : World} {b : Nat} {x0 x1 x2 x3 : Value} (h : G4 w b x0 x1 x2 x3) {row : Option Nat} (hg : w.grownBy w' row) (hr : ∀ j, row = some j → b < j) : G4 w' b x0 x1 x2 x3 := by
  have hb : w'.heap[b]? = w.heap[b]? := hg.block b h.lo.lt (fun e => by have := hr b e.symm; omega)
  exact ⟨h.lo.grown hg hr, (World.cell?_of_block (w := w) (a := ⟨b, 3, none⟩) hb).trans h.c3, (World.frozen?_of_block (w := w) (a := ⟨b, 3, none⟩) hb).trans h.f3⟩
/-- A certificate's list that grows value by value, in a box behind W. -/
structure Ag (W : World) (a : Option Addr) (n cap : Nat) (p inc : Int) (f : Nat → Int) (k : Nat) (sv : Value) (u : World) : Prop where
  below : Below W.heap.size W u
  out : G4 u W.heap.size (.slice a n cap) (.int .i64 p) (.int .i64 inc) sv
  own : u.ownsRow (W.heap.size + 1) 3 1 sv k ((firsts f k).map (Value.int .i64))
section
variable {W u v : World} {a : Option Addr} {n cap : Nat} {p inc : Int} {f : Nat → Int} {k : Nat} {sv : Value}
theorem Ag.start (W : World) (a : Option Addr) (n cap : Nat) (p inc : Int) (f : Nat → Int) : Ag W a n cap p inc f 0 (.slice none 0 0) (W.alloc (.cells #[.slice a n cap, .int .i64 p, .int .i64 inc, .slice none 0 0] 50)) :=
  ⟨below_box _, g4_new W _ _ _ _ _, World.ownsRow_nil _ _ _ _⟩
theorem Ag.under (h : Ag W a n cap p inc f k sv u) (hb : Below u.heap.size u v) : Ag W a n cap p inc f k sv v :=
  ⟨h.below.trans (hb.mono h.below.size), h.out.below hb, owns_apart h.own (below_apart (b := W.heap.size) hb) (by omega)⟩
theorem Ag.row (h : Ag W a n cap p inc f k sv u) (h1 : 1 ≤ k) (hk : k ≤ 100000) (hb : ∀ t, t < k → In64 (f t)) : ∃ g c, sv = .slice (some ⟨g, 0, none⟩) k c ∧ RowZ u (some ⟨g, 0, none⟩) k c (firsts f k) ∧ W.heap.size < g := by
  obtain ⟨g, c, rfl, hg, hg'⟩ := h.own.form (by omega)
  obtain ⟨a9, c9, hv9, R9, X9⟩ := rowZ_of_owns h.own (by omega) (fun i hi => by rw [firsts_length] at hi; rw [firsts_getD _ _ _ hi]; exact hb i hi)
  cases hv9
  exact ⟨g, c, rfl, R9, by have := X9 _ rfl; show W.heap.size + 1 ≤ g; exact this⟩
end
end Go.Proofs.Ytjjaaknjdmijbaa
