/- The mathematics of two curves that are compared at every tick. Nothing here speaks of the program. By the verifier's side. -/
import Derived.Test.YtknimlpdpgpliaaCCurN
namespace Go.Proofs.Ytknimlpdpgpliaa

theorem Per.to {d : Nat → Int} {S L : Nat} {c : Int} (h : Per d S L c) (r j : Nat) : d (S + r + j * L) = d (S + r) + (j : Int) * c := h.mul j (S + r) (by omega)

/-! ## Two curves -/

/-- A curve that is not finite. -/
def InfC (zs : List Int) : Prop := zs.getD (zs.length - 1) 0 = infV
theorem infC_iff (zs : List Int) : InfC zs ↔ zs.getD (zs.length - 1) 0 = infV := Iff.rfl

section
variable {zs ys : List Int} {p q : Nat} {inc jnc : Int}

/-- A value of an infinite curve is infinite or small. -/
theorem Good.inf_small (g : Good zs p inc) (hi : InfC zs) (t : Nat) : atC zs p inc t = infV ∨ (0 ≤ atC zs p inc t ∧ atC zs p inc t ≤ 1073741824) := by
  have h3 := g.p3; have h1 := g.p1
  by_cases ht : t < zs.length
  · rw [atC_lt ht]
    rcases g.val t ht with h | h
    · exact .inr h
    · exact .inl h
  · exact .inl (atC_inf hi (by omega) (by omega))

end
end Go.Proofs.Ytknimlpdpgpliaa
