/- For the walks of the laws about deviations: curves that repeat by a day, later, scaled; what is read of the drawn curves. By the verifier's side. -/
import Derived.Test.YthljhddnfflpjaaHPwOPwXR56MHpM
import Derived.Test.YthljhddnfflpjaaHPwE
import Derived.Test.YthljhddnfflpjaaHRefA
import Derived.Deep.LoopGhost
import Derived.Deep.CutBlock
import Derived.BigQuiet
import Derived.Test.YthljhddnfflpjaaHRowF
import Derived.Test.YthljhddnfflpjaaHPwFPwG
import Derived.Laws.EntriesVeiled
import Derived.Test.YthljhddnfflpjaaHCurWCurveNormalW
import Derived.Test.YthljhddnfflpjaaHCurSLongKeepC
import Derived.Laws.OwnMore
import Derived.Test.YthljhddnfflpjaaHBaseApartPickKeepS
import Derived.Test.YthljhddnfflpjaaHCurX
import Derived.Test.YthljhddnfflpjaaHRefV
import Derived.Test.YthljhddnfflpjaaHOrdMPwM
namespace Go.Proofs.Ythljhddnfflpjaa
open Go.RowKit
set_option linter.unusedSimpArgs false
set_option linter.unusedVariables false

theorem day_drawn {most : Nat} {zs : List Int} {p : Nat} {inc : Int} (ok : OkCur most zs p inc) : Day (eC zs p inc) := by
  by_cases hi : InfC zs
  · exact day_none (s := zs.length - 1) fun t ht => eC_late ok.good hi ht
  · obtain ⟨c, hc⟩ := ok.twelve hi
    exact day_some (s := most - 1) (c := 2 * c) (fun t _ => eC_fin hi _ _ t) (by have := hc.mul 2; exact this)
/-- A curve is handed back, or the error that there is none. -/
def GivesZ3 (E : Nat → Option Int) (w : World) (e : Ending) (w' : World) : Prop :=
  ∃ (a : Option Addr) (n cap : Nat) (zs : List Int) (p inc c : Int), e = .returned (.tuple #[curV a n cap p inc, .int .i64 c]) ∧ Below w.heap.size w w' ∧ RowZ w' a n cap zs ∧ ((c = 0 ∧ ∃ q : Nat, p = q ∧ EForm zs q inc E) ∨ c = 3)
theorem GivesE.z3 {E : Nat → Option Int} {w w' : World} {e : Ending} (h : GivesE E w e w') : GivesZ3 E w e w' := by
  obtain ⟨hb, ⟨a, n, cap, zs, p, inc, he, hr, hf, hx⟩ | ⟨he, _⟩⟩ := h
  · exact ⟨a, n, cap, zs, p, inc, 0, he, hb, hr, .inl ⟨rfl, p, rfl, hf⟩⟩
  · exact ⟨none, 0, 0, [], 0, 0, 3, he, hb, ⟨rfl, Nat.le_refl _, Nat.zero_le _, by omega, fun i hi => absurd hi (Nat.not_lt_zero _), fun i hi => absurd hi (Nat.not_lt_zero _)⟩, .inr rfl⟩
end Go.Proofs.Ythljhddnfflpjaa
