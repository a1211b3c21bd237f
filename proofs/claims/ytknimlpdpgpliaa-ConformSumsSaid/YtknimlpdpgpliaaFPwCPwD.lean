/- Contracts of package pointwise: plus, lesser, greater, growth, the closures. By the verifier's side. -/
import Derived.Test.YtknimlpdpgpliaaFPwB
namespace Go.Proofs.Ytknimlpdpgpliaa
open Go.RowKit
set_option linter.unusedSimpArgs false

theorem Mid.bd {x : Int} (h : Mid x) : 0 ≤ x ∧ x ≤ 4611686018427387904 ∧ (x = 4611686018427387904 ∨ x ≤ 1125899906842624) := by
  unfold Mid infV at h; omega

/-! ## The closures -/

section
variable {fid : FuncId} {caps : Array Value} {T : Nat} {f : Nat → Int} {w : World} {bv bx : Nat} {x : Int}

end

end Go.Proofs.Ytknimlpdpgpliaa

namespace Go.Proofs.Ytknimlpdpgpliaa
open Go.RowKit
set_option linter.unusedSimpArgs false

theorem ClosG.congr {fid : FuncId} {caps : Array Value} {T : Nat} {f F : Nat → Int} {w : World} (h : ClosG fid caps T f w) (he : ∀ t, t < T → f t = F t) : ClosG fid caps T F w :=
  fun ti t v w' h1 h2 h3 h4 => h ti t v w' h1 h2 ((he t h2).trans h3) h4

end Go.Proofs.Ytknimlpdpgpliaa
