/- Contract of keep.Longer. By the verifier's side. -/
import Derived.Test.YtombgfpheiopgaaECurF
import Derived.Test.YtombgfpheiopgaaECurMCurNOrdM
import Derived.Test.YtombgfpheiopgaaEBaseApartPick
import Derived.Deep.AppendLies
import Derived.Test.YtombgfpheiopgaaProg
import Derived.WalkKit
import Derived.Deep.RegionHeld3
import Derived.StillTail
import Derived.Deep.DrawnRows
import Derived.StillTailTactics
import Derived.RegionTactic
import Derived.Deep.DeepCutAuto
namespace Go.Proofs.Ytombgfpheiopgaa
open Go.RowKit
set_option linter.unusedSimpArgs false

theorem Cur3.drewL {w : World} {b : Nat} {x0 x1 x2 : Value} (h : Cur3 w b x0 x1 x2) : Cur3 w.drew b x0 x1 x2 := ⟨h.c0, h.c1, h.c2, h.f0, h.f1, h.f2⟩
theorem owns_cell {w : World} {base g cap k : Nat} {zs : List Int} (h : w.ownsRow base 3 1 (.slice (some ⟨g, 0, none⟩) k cap) k (zs.map (Value.int .i64))) {i : Nat} (hi : i < zs.length) : w.cell? ⟨g, i, none⟩ = some (.int .i64 (zs.getD i 0)) := by
  have h1 := h.cells (g := g) rfl i (.int .i64 (zs.getD i 0)) (by simp [List.getD, hi])
  have ea : ((⟨g, 0, none⟩ : Addr).add i) = ⟨g, i, none⟩ := by unfold Addr.add; split <;> simp_all
  rwa [ea] at h1


theorem RowZ.drew {w : World} {a : Option Addr} {n cap : Nat} {zs : List Int} (h : RowZ w a n cap zs) : RowZ w.drew a n cap zs := ⟨h.len, h.le, h.sm, h.cm, h.cell, h.bd⟩

end Go.Proofs.Ytombgfpheiopgaa
