/- Mathematics of the deconvolution, without the program. By the verifier's side. -/
import Derived.Test.YtjipmkgnndldpaaEConMN
namespace Go.Proofs.Ytjipmkgnndldpaa
set_option linter.unusedVariables false

section
variable {a a' b b' c : Nat → Option Int} {t : Nat}

/-- v is at least every difference at the tick t. -/
def UB (a b : Nat → Option Int) (t : Nat) (v : Option Int) : Prop := ∀ u y, b u = some y → ole (a (t + u)) (oadd v (some y))
theorem UB.mono {v v' : Option Int} (h : UB a b t v) (k : ole v v') : UB a b t v' := fun u y hy => ole_trans (h u y hy) (ole_oadd2 k (ole_refl _))
end

/-! ## What the program computes -/

section
variable {zs ys hs : List Int} {p q r : Nat} {inc jnc knc : Int}

theorem eC_mono1 (g : Good zs p inc) (t : Nat) : ole (eC zs p inc t) (eC zs p inc (t + 1)) := fun y hy => by
  cases h : eC zs p inc t with
  | none => rw [eC_up g h] at hy; cases hy
  | some x => exact ⟨x, rfl, eC_mono g h hy⟩
theorem eC_monoK (g : Good zs p inc) (t k : Nat) : ole (eC zs p inc t) (eC zs p inc (t + k)) := by
  induction k with
  | zero => exact ole_refl _
  | succ k ih => exact ole_trans ih (eC_mono1 g (t + k))

variable {L : Nat}
end
end Go.Proofs.Ytjipmkgnndldpaa
