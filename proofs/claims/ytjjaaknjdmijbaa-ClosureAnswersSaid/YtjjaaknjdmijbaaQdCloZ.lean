/- What the document's fits says is what attains says. By the verifier's side. -/
import Derived.Test.YtjjaaknjdmijbaaQdCloP
import Derived.Test.YtjjaaknjdmijbaaQdRCl4
namespace Go.Proofs.Ytjjaaknjdmijbaa
set_option linter.unusedSimpArgs false
set_option linter.unusedVariables false
section
variable {ys hs : List Int} {q r : Nat} {jnc knc : Int}

theorem fit_catt (g : Good ys q jnc) (k : Good hs r knc) {t : Nat} (ht : 1 ≤ t) (s : Int) :
    Fit9 ys q jnc hs r knc (comL q hs r) (horC ys q hs r (comL q hs r)) t s ↔ ∃ u : Nat, s = u ∧ CAtt ys q jnc hs r knc (horC ys q hs r (comL q hs r)) u t := by
  have hk := k.few
  have h3 := k.p3
  have h1 := k.p1
  constructor
  · rintro (⟨h, _⟩ | ⟨_, rfl, e, h⟩ | ⟨u, rfl, h1, h2, e, h⟩)
    · omega
    · refine ⟨0, rfl, .inl ⟨rfl, e, ?_⟩⟩
      rcases h with h | h | ⟨f1, f2, e2⟩
      · exact .inl h
      · exact .inr (.inl h)
      · exact .inr (.inr ⟨f1, (grow_eq g.p1 k.p1 (com_mult f2 g.p1 k.p1)).2 e2⟩)
    · exact ⟨u, rfl, .inr ⟨h1, h2, e, h⟩⟩
  · rintro ⟨u, rfl, ⟨rfl, e, h⟩ | ⟨h1, h2, e, h⟩⟩
    · refine .inr (.inl ⟨by omega, rfl, e, ?_⟩)
      rcases h with h | h | ⟨f1, e2⟩
      · exact .inl h
      · exact .inr (.inl h)
      · by_cases hi : InfC hs
        · by_cases hF : t < horC ys q hs r (comL q hs r)
          · exact .inl hF
          · refine .inr (.inl (atC_inf hi ?_ (by omega)))
            have hr := (k.tailI hi).1
            unfold horC at hF
            omega
        · exact .inr (.inr ⟨f1, hi, (grow_eq g.p1 k.p1 (com_mult hi g.p1 k.p1)).1 e2⟩)
    · exact .inr (.inr ⟨u, rfl, h1, h2, e, h⟩)
end

end Go.Proofs.Ytjjaaknjdmijbaa
