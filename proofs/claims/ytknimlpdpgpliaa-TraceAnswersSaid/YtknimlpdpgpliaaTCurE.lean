/- Contracts: curve.reduced, curve.Normal. By the verifier's side. -/
import Derived.Test.YtknimlpdpgpliaaTCurAGrow
import Derived.BigQuiet
import Derived.Deep.QuietTactic
import Derived.WalkSpells
import Derived.Lib.LazyBuf
import Derived.Deep.LoopGhost
namespace Go.Proofs.Ytknimlpdpgpliaa
open Go.RowKit
set_option linter.unusedSimpArgs false

theorem RowZ.take {w : World} {a : Option Addr} {n cap : Nat} {zs : List Int} (h : RowZ w a n cap zs) (m : Nat) (hm : m ≤ n) : RowZ w a m cap (zs.take m) := by
  have hl := h.len
  have hle := h.le
  have hsm := h.sm
  refine ⟨by rw [List.length_take]; omega, by omega, by omega, h.cm, fun i hi => ?_, fun i hi => ?_⟩
  · rw [getD_take hi]; exact h.cell i (by omega)
  · rw [getD_take hi]; exact h.bd i (by omega)

end Go.Proofs.Ytknimlpdpgpliaa
