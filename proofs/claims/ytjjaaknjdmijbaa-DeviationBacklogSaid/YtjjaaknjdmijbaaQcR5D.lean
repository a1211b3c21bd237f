/- Contracts of the document's At, periodic, Least and Made at functions that are given like curves, perhaps beyond the limits. By the verifier's side. | The document's operations on pairs of curves: their beginning, and lists that grow value by value. By the verifier's side. | The document's Sum by its meaning. By the verifier's side. -/
import Derived.Test.YtjjaaknjdmijbaaQcR56M
import Derived.Test.YtjjaaknjdmijbaaQcRefP
import Derived.Test.YtjjaaknjdmijbaaQcPwG
import Derived.Test.YtjjaaknjdmijbaaQcCurveGrowsW
import Derived.Deep.RegionHeld3
import Derived.Test.YtjjaaknjdmijbaaQcRefO
import Derived.Test.YtjjaaknjdmijbaaQcPwS
import Derived.BigRegion
import Derived.Test.YtjjaaknjdmijbaaQcPwU
namespace Go.Proofs.Ytjjaaknjdmijbaa
open Go.RowKit
set_option linter.unusedSimpArgs false

end Go.Proofs.Ytjjaaknjdmijbaa

namespace Go.Proofs.Ytjjaaknjdmijbaa
open Go.RowKit
set_option linter.unusedSimpArgs false
set_option linter.unusedVariables false

/-! ## A list that grows value by value -/

/-- A curve's box stands behind W, and lists the first k values of f. -/
structure Ap (W : World) (p inc : Int) (f : Nat → Int) (k : Nat) (sv : Value) (u : World) : Prop where
  below : Below W.heap.size W u
  out : Cur3 u W.heap.size sv (.int .i64 p) (.int .i64 inc)
  own : u.ownsRow (W.heap.size + 1) 3 1 sv k ((firsts f k).map (Value.int .i64))
theorem Ap.under {W : World} {p inc : Int} {f : Nat → Int} {k : Nat} {sv : Value} {u v : World} (h : Ap W p inc f k sv u) (hb : Below u.heap.size u v) : Ap W p inc f k sv v :=
  ⟨h.below.trans (hb.mono h.below.size), h.out.below hb, owns_apart h.own (below_apart (b := W.heap.size) hb) (by omega)⟩
theorem Ap.alloc {W : World} {p inc : Int} {f : Nat → Int} {k : Nat} {sv : Value} {u : World} (h : Ap W p inc f k sv u) (o : Obj) : Ap W p inc f k sv (u.alloc o) := h.under ((Below.refl _ _).alloc (Nat.le_refl _) o)
theorem Ap.drew {W : World} {p inc : Int} {f : Nat → Int} {k : Nat} {sv : Value} {u : World} (h : Ap W p inc f k sv u) : Ap W p inc f k sv u.drew := h.under (Below.refl _ _).drew
theorem Ap.row {W : World} {p inc : Int} {f : Nat → Int} {k : Nat} {sv : Value} {u : World} (h : Ap W p inc f k sv u) (h1 : 1 ≤ k) (hk : k ≤ 100000) (hb : ∀ t, t < k → In64 (f t)) :
    ∃ g cap, sv = .slice (some ⟨g, 0, none⟩) k cap ∧ RowZ u (some ⟨g, 0, none⟩) k cap (firsts f k) ∧ W.heap.size < g := by
  obtain ⟨g, cap, rfl, hg, hg'⟩ := h.own.form (by omega)
  obtain ⟨a9, c9, hv9, R9, X9⟩ := rowZ_of_owns h.own (by omega) (fun i hi => by rw [firsts_length] at hi; rw [firsts_getD _ _ _ hi]; exact hb i hi)
  cases hv9
  exact ⟨g, cap, rfl, R9, by have := X9 _ rfl; show W.heap.size + 1 ≤ g; exact this⟩

/-! ## The beginning of the operations on pairs -/

end Go.Proofs.Ytjjaaknjdmijbaa

namespace Go.Proofs.Ytjjaaknjdmijbaa
open Go.RowKit
set_option linter.unusedSimpArgs false
set_option linter.unusedVariables false

theorem boxesB (w : World) (a1 : Option Addr) (n1 cap1 : Nat) (p1 i1 : Int) (a2 : Option Addr) (n2 cap2 : Nat) (p2 i2 : Int) {W : World} (hW : ((w.alloc (.cells #[.slice a1 n1 cap1, .int .i64 p1, .int .i64 i1] 24)).alloc (.cells #[.slice a2 n2 cap2, .int .i64 p2, .int .i64 i2] 24)).alloc (.cells #[.slice none 0 0, .int .i64 0, .int .i64 0] 24) = W) :
    (Below w.heap.size w W ∧ W.heap.size = w.heap.size + 3) ∧ Cur3 W w.heap.size (.slice a1 n1 cap1) (.int .i64 p1) (.int .i64 i1) ∧ Cur3 W (w.heap.size + 1) (.slice a2 n2 cap2) (.int .i64 p2) (.int .i64 i2) ∧ Cur3 W (w.heap.size + 2) (.slice none 0 0) (.int .i64 0) (.int .i64 0) := by
  subst hW
  refine ⟨⟨(((Below.refl _ _).alloc (Nat.le_refl _) _).alloc (by simp) _).alloc (by simp; omega) _, by simp⟩, ((Cur3.new w _ _ _ _).alloc _).alloc _, (Cur3.new2 w _ _ _ _ _).alloc _, ?_⟩
  have := Cur3.new2 (w.alloc (.cells #[.slice a1 n1 cap1, .int .i64 p1, .int .i64 i1] 24)) (.slice none 0 0) (.int .i64 0) (.int .i64 0) 24 (.cells #[.slice a2 n2 cap2, .int .i64 p2, .int .i64 i2] 24)
  simpa using this

end Go.Proofs.Ytjjaaknjdmijbaa
