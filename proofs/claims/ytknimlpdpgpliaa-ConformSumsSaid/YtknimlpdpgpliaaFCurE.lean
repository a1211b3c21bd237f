/- Contracts: curve.reduced, curve.Normal. By the verifier's side. -/
import Derived.Test.YtknimlpdpgpliaaFCurNCurBCurV
import Derived.Test.YtknimlpdpgpliaaFCurAGrow
import Derived.WalkSpells
import Derived.Lib.LazyBuf
import Derived.Deep.LoopGhost
namespace Go.Proofs.Ytknimlpdpgpliaa
open Go.RowKit
set_option linter.unusedSimpArgs false

theorem RowZ.take {w : World} {a : Option Addr} {n cap : Nat} {zs : List Int} (h : RowZ w a n cap zs) (m : Nat) (hm : m ≤ n) : RowZ w a m cap (zs.take m) := by
  have hl := h.len
  have hle := h.le
  have hsm := h.sm
  refine ⟨by rw [List.length_take]; omega, by omega, by omega, h.cm, fun i hi => ?_, fun i hi => ?_⟩
  · rw [getD_take hi]; exact h.cell i (by omega)
  · rw [getD_take hi]; exact h.bd i (by omega)

/-- The normal form of a curve is handed back, in memory of the call's own. -/
def GivesNorm (zs : List Int) (p : Nat) (inc : Int) (w : World) (e : Ending) (w' : World) : Prop :=
  ∃ a n cap zs' p' inc', e = .returned (curV a n cap (p' : Nat) inc') ∧ Below w.heap.size w w' ∧ RowZ w' a n cap zs' ∧ NormC zs p inc zs' p' inc' ∧ ∀ x, a = some x → w.heap.size ≤ x.block

theorem norm_post {w w2 : World} {b : Nat} (hb : Below w.heap.size w w2) (hwb : w.heap.size ≤ b) {a : Option Addr} {n cap : Nat} {zs' : List Int} (hr : RowZ w2 a n cap zs') (hlt : ∀ x, a = some x → b < x.block) (p' : Nat) (inc' : Int)
    {zs : List Int} {p : Nat} {inc : Int} (hn : NormC zs p inc zs' p' inc') :
    GivesNorm zs p inc w (.returned (curV a n cap p' inc')) (((w2.setCell ⟨b, 0, none⟩ (.slice a n cap)).setCell ⟨b, 1, none⟩ (.int .i64 p')).setCell ⟨b, 2, none⟩ (.int .i64 inc')) :=
  ⟨a, n, cap, zs', p', inc', rfl, below_set3 hb hwb _ _ _, ((hr.store (fun x h _ => Nat.ne_of_gt (hlt x h)) _ _).store (fun x h _ => Nat.ne_of_gt (hlt x h)) _ _).store (fun x h _ => Nat.ne_of_gt (hlt x h)) _ _, hn, fun x h => Nat.le_trans hwb (Nat.le_of_lt (hlt x h))⟩

end Go.Proofs.Ytknimlpdpgpliaa
