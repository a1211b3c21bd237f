/- Contract of curve.steady, for whatever closure with one variable. By the verifier's side. -/
import Derived.Test.YthljhddnfflpjaaCCurF
import Derived.Test.YthljhddnfflpjaaCCurMCurN
import Derived.Deep.RegionWith
import Derived.Shelf.Abstract
import Derived.Deep.RegionHeld3
import Derived.Deep.OwnRows
import Derived.Deep.DeepCutAuto
namespace Go.Proofs.Ythljhddnfflpjaa
open Go.RowKit
set_option linter.unusedSimpArgs false

theorem made_cell (w : World) (m i : Nat) (hi : i < m) : (w.alloc (.cells (madeCells #[.int .i64 0] m) 3)).cell? ⟨w.heap.size, i, none⟩ = some (.int .i64 0) := by
  rw [World.cell?_alloc_new]
  simp [madeCells, hi, Nat.mod_one]
theorem made_frozen (w : World) (m i : Nat) : (w.alloc (.cells (madeCells #[.int .i64 0] m) 3)).frozen? ⟨w.heap.size, i, none⟩ = false := World.frozen?_alloc_at _ _ _ _ rfl

theorem Cur3.drew {w : World} {b : Nat} {x0 x1 x2 : Value} (h : Cur3 w b x0 x1 x2) : Cur3 w.drew b x0 x1 x2 := ⟨h.c0, h.c1, h.c2, h.f0, h.f1, h.f2⟩

end Go.Proofs.Ythljhddnfflpjaa
