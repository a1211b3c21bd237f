/- Contracts of package pointwise: plus, lesser, greater, growth, the closures. By the verifier's side. -/
import Derived.Test.YtolgklpdmlohlaaPwB
namespace Go.Proofs.Ytolgklpdmlohlaa
open Go.RowKit
set_option linter.unusedSimpArgs false

theorem Mid.bd {x : Int} (h : Mid x) : 0 ≤ x ∧ x ≤ 4611686018427387904 ∧ (x = 4611686018427387904 ∨ x ≤ 1125899906842624) := by
  unfold Mid infV at h; omega

/-! ## The closures -/

section
variable {fid : FuncId} {caps : Array Value} {T : Nat} {f : Nat → Int} {w : World} {bv bx : Nat} {x : Int}

/-- A choice between two numbers, which is handed over as a function. -/
def ChG (fc : FuncId) (ch : Int → Int → Int) : Prop := ∀ (x y : Int) (w : World), Mid x → Mid y → Calls Try.prog fc #[.int .i64 x, .int .i64 y] w fun e w' => e = .returned (.int .i64 (ch x y)) ∧ w' = w

end

end Go.Proofs.Ytolgklpdmlohlaa
