/- The mathematics of the sub-additive closure. By the verifier's side. -/
import Derived.Test.YtknimlpdpgpliaaERowFR56MConMN
namespace Go.Proofs.Ytknimlpdpgpliaa
set_option linter.unusedSimpArgs false

section
variable {E E' C : Nat → Option Int}
/-- A function that is sub-additive. -/
def SubA (C : Nat → Option Int) : Prop := ∀ s u, ole (C (s + u)) (oadd (C s) (C u))
end

end Go.Proofs.Ytknimlpdpgpliaa

namespace Go.Proofs.Ytknimlpdpgpliaa
set_option linter.unusedSimpArgs false
set_option linter.unusedVariables false

/-- A function whose sums below two periods are right is sub-additive. -/
theorem sub_per {X : Nat → Option Int} {s p : Nat} {c : Int} (hp : 1 ≤ p) (hP : ∀ t, s ≤ t → X (t + p) = oadd (X t) (some c)) (h : ∀ a b, a < s + p → b < s + p → ole (X (a + b)) (oadd (X a) (X b))) : SubA X := by
  have key : ∀ n a b, a + b ≤ n → ole (X (a + b)) (oadd (X a) (X b)) := fun n => by
    induction n with
    | zero => intro a b hn; exact h a b (by omega) (by omega)
    | succ n ih =>
      intro a b hn
      by_cases ha : a < s + p
      · by_cases hb : b < s + p
        · exact h a b ha hb
        · have e1 := hP (b - p) (by omega)
          have e2 := hP (a + (b - p)) (by omega)
          rw [show b - p + p = b by omega] at e1
          rw [show a + (b - p) + p = a + b by omega] at e2
          rw [e1, e2, ← oadd_assoc]
          exact ole_oadd2 (ih a (b - p) (by omega)) (ole_refl _)
      · have e1 := hP (a - p) (by omega)
        have e2 := hP (a - p + b) (by omega)
        rw [show a - p + p = a by omega] at e1
        rw [show a - p + b + p = a + b by omega] at e2
        rw [e1, e2, oadd_assoc, oadd_comm (some c), ← oadd_assoc]
        exact ole_oadd2 (ih (a - p) b (by omega)) (ole_refl _)
  exact fun a b => key (a + b) a b (Nat.le_refl _)

section
variable {ys hs : List Int} {q r p : Nat} {jnc knc : Int}

/-! ## The common period, the horizon, the parts -/

end
end Go.Proofs.Ytknimlpdpgpliaa
