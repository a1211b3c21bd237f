/- Contracts of the document's At, periodic, Least and Made at functions that are given like curves, perhaps beyond the limits. By the verifier's side. | The document's operations on pairs of curves: their beginning, and lists that grow value by value. By the verifier's side. | The document's Sum by its meaning. By the verifier's side. -/
import Derived.Test.YtombgfpheiopgaaEPwMPwOPwXR56M
import Derived.Test.YtombgfpheiopgaaERefP
import Derived.Test.YtombgfpheiopgaaEPwG
import Derived.Test.YtombgfpheiopgaaECurX
import Derived.Test.YtombgfpheiopgaaERefO
import Derived.Test.YtombgfpheiopgaaEPwS
import Derived.BigRegion
import Derived.Test.YtombgfpheiopgaaEPwU
namespace Go.Proofs.Ytombgfpheiopgaa
open Go.RowKit
set_option linter.unusedSimpArgs false

end Go.Proofs.Ytombgfpheiopgaa

namespace Go.Proofs.Ytombgfpheiopgaa
open Go.RowKit
set_option linter.unusedSimpArgs false
set_option linter.unusedVariables false

/-! ## A list that grows value by value -/

/-- A curve's box stands behind W, and lists the first k values of f. -/
structure Ap (W : World) (p inc : Int) (f : Nat → Int) (k : Nat) (sv : Value) (u : World) : Prop where
  below : Below W.heap.size W u
  out : Cur3 u W.heap.size sv (.int .i64 p) (.int .i64 inc)
  own : u.ownsRow (W.heap.size + 1) 3 1 sv k ((firsts f k).map (Value.int .i64))
theorem Ap.start (W : World) (p inc : Int) (f : Nat → Int) : Ap W p inc f 0 (.slice none 0 0) (W.alloc (.cells #[.slice none 0 0, .int .i64 p, .int .i64 inc] 24)) :=
  ⟨(Below.refl _ _).alloc (Nat.le_refl _) _, Cur3.new W _ _ _ _, World.ownsRow_nil _ _ _ _⟩
theorem Ap.under {W : World} {p inc : Int} {f : Nat → Int} {k : Nat} {sv : Value} {u v : World} (h : Ap W p inc f k sv u) (hb : Below u.heap.size u v) : Ap W p inc f k sv v :=
  ⟨h.below.trans (hb.mono h.below.size), h.out.below hb, owns_apart h.own (below_apart (b := W.heap.size) hb) (by omega)⟩
theorem Ap.alloc {W : World} {p inc : Int} {f : Nat → Int} {k : Nat} {sv : Value} {u : World} (h : Ap W p inc f k sv u) (o : Obj) : Ap W p inc f k sv (u.alloc o) := h.under ((Below.refl _ _).alloc (Nat.le_refl _) o)
theorem Ap.drew {W : World} {p inc : Int} {f : Nat → Int} {k : Nat} {sv : Value} {u : World} (h : Ap W p inc f k sv u) : Ap W p inc f k sv u.drew := h.under (Below.refl _ _).drew
theorem Ap.row {W : World} {p inc : Int} {f : Nat → Int} {k : Nat} {sv : Value} {u : World} (h : Ap W p inc f k sv u) (h1 : 1 ≤ k) (hk : k ≤ 100000) (hb : ∀ t, t < k → In64 (f t)) :
    ∃ g cap, sv = .slice (some ⟨g, 0, none⟩) k cap ∧ RowZ u (some ⟨g, 0, none⟩) k cap (firsts f k) ∧ W.heap.size < g := by
  obtain ⟨g, cap, rfl, hg, hg'⟩ := h.own.form (by omega)
  obtain ⟨a9, c9, hv9, R9, X9⟩ := rowZ_of_owns h.own (by omega) (fun i hi => by rw [firsts_length] at hi; rw [firsts_getD _ _ _ hi]; exact hb i hi)
  cases hv9
  exact ⟨g, cap, rfl, R9, by have := X9 _ rfl; show W.heap.size + 1 ≤ g; exact this⟩

/-! ## The beginning of the operations on pairs -/

end Go.Proofs.Ytombgfpheiopgaa

namespace Go.Proofs.Ytombgfpheiopgaa
open Go.RowKit
set_option linter.unusedSimpArgs false
set_option linter.unusedVariables false

end Go.Proofs.Ytombgfpheiopgaa
