/- append of a made list at a fresh row. By the verifier's side. -/
import Derived.Test.YtgdkjmmlgnmidaaOrderLastW
import Derived.Test.YtgdkjmmlgnmidaaZero
namespace Go.Proofs.Ytgdkjmmlgnmidaa
open Go.RowKit
set_option linter.unusedSimpArgs false

abbrev zRow (capC : Nat) : Array Value := #[.int .i64 0] ++ (Builtin.zeroCells #[.int .i64 0] 3 ++ Builtin.zeroCells #[.int .i64 0] (capC - 4))
theorem zeros_own (wS : World) (B : Nat) (hB : B ≤ wS.heap.size) (capC : Nat) (hc4 : 4 ≤ capC) (hcM : capC ≤ maxLen) :
    (((wS.alloc (.cells #[.int .i64 0] 3)).alloc (.cells #[.int .i64 0] 3)).alloc (.cells (zRow capC) 3)).drew.ownsRow B 3 1 (.slice (some ⟨wS.heap.size + 1 + 1, 0, none⟩) 4 capC) 4 (([0, 0, 0, 0] : List Int).map (Value.int .i64)) := by
  have hz3 : Builtin.zeroCells #[.int .i64 0] 3 = #[.int .i64 0, .int .i64 0, .int .i64 0] := by
    apply Array.ext'
    simp [Builtin.zeroCells, Array.toList_range, show List.range 3 = [0, 1, 2] from rfl]
  have hn := heap_alloc_new ((wS.alloc (.cells #[.int .i64 0] 3)).alloc (.cells #[.int .i64 0] 3)) (.cells (zRow capC) 3)
  rw [show ((wS.alloc (.cells #[.int .i64 0] 3)).alloc (.cells #[.int .i64 0] 3)).heap.size = wS.heap.size + 1 + 1 by simp] at hn
  refine ⟨rfl, .inr ⟨wS.heap.size + 1 + 1, capC, zRow capC, rfl, by omega, hn, hc4, hcM, ?_, ?_⟩⟩
  · simp only [zRow, Array.size_append, size_zeroCells]; show 1 + (3 * 1 + (capC - 4) * 1) = capC * 1; omega
  · simp only [zRow, Array.toList_append, hz3]; rfl
end Go.Proofs.Ytgdkjmmlgnmidaa
