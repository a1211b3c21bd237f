/- The walk of OrderDual. By the verifier's side. -/
import Derived.Test.YtfakbgdeeifnkaaOrdB
import Derived.Test.YtfakbgdeeifnkaaKeepC
namespace Go.Proofs.Ytfakbgdeeifnkaa
open Go.RowKit
set_option linter.unusedSimpArgs false

theorem dC_neg (zs : List Int) (p : Nat) (inc : Int) (ys : List Int) (q : Nat) (jnc : Int) (t : Nat) : dC ys q jnc zs p inc t = -dC zs p inc ys q jnc t := by
  by_cases h1 : InfC zs ∧ atC zs p inc t = infV <;> by_cases h2 : InfC ys ∧ atC ys q jnc t = infV
  · rw [dC_both h1 h2, dC_both h2 h1]; rfl
  · unfold dC; rw [if_neg h2, if_pos h1, if_pos h1, if_neg h2]
  · unfold dC; rw [if_pos h2, if_neg h1, if_neg h1, if_pos h2]; rfl
  · unfold dC; rw [if_neg h2, if_neg h1, if_neg h1, if_neg h2]; omega

/-- What the four answers have to do with each other. -/
theorem dual_math {d d' : Nat → Int} (hd : ∀ t, d' t = -d t) {t u x m : Int} {ok is ex me : Bool} (h1 : SetP d t ok) (h2 : SetP d' u is) (h3 : ExcP d x ex) (h4 : MeetP d m me) :
    (ok = true → 0 ≤ t ∧ (ex = true → 0 < t ∧ x < t) ∧ (ex = false → t = 0)) ∧ (ok = false → ex = true ∧ me = false) ∧ (ok = true → me = is ∧ (is = true → 0 ≤ u ∧ m = max t u)) := by
  refine ⟨fun ho => ?_, fun ho => ?_, fun ho => ?_⟩
  · subst ho
    rcases h1 with ⟨_, T, rfl, k1, k2⟩ | ⟨hh, _⟩
    · refine ⟨by omega, fun he => ?_, fun he => ?_⟩
      · subst he
        rcases h3 with ⟨_, X, rfl, j1, j2⟩ | ⟨hh, _⟩
        · have : X < T := by
            refine Classical.byContradiction fun hn => ?_
            have := k1 X (by omega); omega
          omega
        · cases hh
      · subst he
        rcases h3 with ⟨hh, _⟩ | ⟨_, _, j1⟩
        · cases hh
        · rcases k2 with k2 | k2
          · omega
          · have := j1 (T - 1); omega
    · cases hh
  · subst ho
    rcases h1 with ⟨hh, _⟩ | ⟨_, _, k1⟩
    · cases hh
    · constructor
      · rcases h3 with ⟨he, _⟩ | ⟨_, _, j1⟩
        · exact he
        · obtain ⟨v, _, hv⟩ := k1 0
          have := j1 v; omega
      · rcases h4 with ⟨_, M, _, j1, _⟩ | ⟨he, _⟩
        · obtain ⟨v, hv1, hv⟩ := k1 M
          have := j1 v hv1; omega
        · exact he
  · subst ho
    rcases h1 with ⟨_, T, rfl, k1, k2⟩ | ⟨hh, _⟩
    · rcases h2 with ⟨rfl, U, rfl, i1, i2⟩ | ⟨rfl, _, i1⟩
      · rcases h4 with ⟨rfl, M, rfl, j1, j2⟩ | ⟨rfl, _, j1⟩
        · refine ⟨rfl, fun _ => ⟨by omega, ?_⟩⟩
          have a1 : T ≤ M := by
            refine Classical.byContradiction fun hn => ?_
            rcases k2 with k2 | k2
            · omega
            · have := j1 (T - 1) (by omega); omega
          have a2 : U ≤ M := by
            refine Classical.byContradiction fun hn => ?_
            rcases i2 with i2 | i2
            · omega
            · have := j1 (U - 1) (by omega); have := hd (U - 1); omega
          have a3 : M ≤ T ∨ M ≤ U := by
            refine Classical.byContradiction fun hn => ?_
            rcases j2 with j2 | j2
            · omega
            · have := k1 (M - 1) (by omega); have := i1 (M - 1) (by omega); have := hd (M - 1); omega
          omega
        · obtain ⟨v, hv1, hv⟩ := j1 (max T U)
          have := k1 v (by omega); have := i1 v (by omega); have := hd v; omega
      · rcases h4 with ⟨rfl, M, rfl, j1, j2⟩ | ⟨rfl, _, j1⟩
        · obtain ⟨v, hv1, hv⟩ := i1 M
          have := j1 v hv1; have := hd v; omega
        · exact ⟨rfl, fun hh => by cases hh⟩
    · cases hh

end Go.Proofs.Ytfakbgdeeifnkaa
