/- Contracts of package bucket: passed, Token, Steps. By the verifier's side. -/
import Derived.Test.YtjipmkgnndldpaaIBkA
import Derived.Test.YtjipmkgnndldpaaIPwFPwG
import Derived.Test.YtjipmkgnndldpaaIKeepT
import Derived.BigRegion
import Derived.Laws.EntriesVeiled
namespace Go.Proofs.Ytjipmkgnndldpaa
open Go.RowKit
set_option linter.unusedSimpArgs false
set_option linter.unusedVariables false

/-! ## What Token and Steps answer, at whatever numbers -/

/-- The answer with these values: their curve in normal form, or the error that there is none. -/
def EIs (E : Nat → Option Int) (zs : List Int) (p inc c : Int) : Prop :=
  (c = 0 ∧ ∃ q : Nat, p = q ∧ EForm zs q inc E) ∨ (c = 3 ∧ zs = [] ∧ p = 0 ∧ inc = 0 ∧ ¬ ECan E)
theorem EIs.ce {E : Nat → Option Int} {zs : List Int} {p inc c : Int} (h : EIs E zs p inc c) {w w' : World} {e : Ending} (k : GivesE E w e w') : GivesCE zs p inc c w e w' := by
  rcases h with ⟨rfl, q, rfl, hf⟩ | ⟨rfl, rfl, rfl, rfl, hn⟩
  · exact k.ce hf
  · exact k.ceNo hn
/-- What passed answers, and Token for buckets that are not faulty. -/
def PasIs (bn bd rn rd : Nat) (zs : List Int) (p inc c : Int) : Prop :=
  (rd ≤ 120 ∧ EIs (tokE bn bd rn rd) zs p inc c) ∨ (120 < rd ∧ c = 3 ∧ zs = [] ∧ p = 0 ∧ inc = 0)
theorem GivesCE.post {w w1 w2 : World} {b : Nat} (hB : Below w.heap.size w w1) (hb1 : w.heap.size ≤ b) (hb2 : b < w1.heap.size) (h2 : Below w1.heap.size w1 w2) {a : Option Addr} {n cap : Nat} {zs : List Int} {p inc c : Int} (hr : RowZ w2 a n cap zs)
    (hx : ∀ x, a = some x → w1.heap.size ≤ x.block) :
    GivesCE zs p inc c w (.returned (.tuple #[curV a n cap p inc, .int .i64 c])) (((w2.setCell ⟨b, 0, none⟩ (.slice a n cap)).setCell ⟨b, 1, none⟩ (.int .i64 p)).setCell ⟨b, 2, none⟩ (.int .i64 inc)) := by
  have hne : ∀ x : Addr, a = some x → 1 ≤ n → x.block ≠ b := fun x h _ => by have := hx x h; omega
  exact ⟨a, n, cap, rfl, below_set3 (hB.trans (h2.mono hB.size)) hb1 _ _ _, ((hr.store hne _ _).store hne _ _).store hne _ _, fun x h => by have := hx x h; have := hB.size; omega⟩
/-! ## Staircases -/

/-! ## Steps, whatever it is given -/

end Go.Proofs.Ytjipmkgnndldpaa
