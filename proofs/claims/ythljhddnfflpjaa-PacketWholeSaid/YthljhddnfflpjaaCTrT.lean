/- The chapter's example. By the verifier's side. -/
import Derived.Test.YthljhddnfflpjaaCTrS
namespace Go.Proofs.Ythljhddnfflpjaa
open Go.RowKit
set_option linter.unusedSimpArgs false
set_option linter.unusedVariables false

/-- A block that lists packets. -/
theorem pkR_new {w : World} {l : List Pk} {cs : Array Value} {t : TypeId} (hn : l.length ≤ 1000000) (hl : ∀ q ∈ l, Pk64 q) (hc : ∀ i q, l[i]? = some q → cs[i * 3]? = some (.int .i64 q.f) ∧ cs[i * 3 + 1]? = some (.int .i64 q.t) ∧ cs[i * 3 + 2]? = some (.int .i64 q.s)) :
    PkR (w.alloc (.cells cs t)) (some ⟨w.heap.size, 0, none⟩) l.length l.length l :=
  ⟨rfl, Nat.le_refl _, hn, by omega, .inr ⟨_, 0, rfl, fun i q hq => by
    obtain ⟨h1, h2, h3⟩ := hc i q hq
    rw [Nat.zero_add]
    exact ⟨cell_new13 h1, cell_new13 h2, cell_new13 h3⟩⟩, hl⟩

end Go.Proofs.Ythljhddnfflpjaa
