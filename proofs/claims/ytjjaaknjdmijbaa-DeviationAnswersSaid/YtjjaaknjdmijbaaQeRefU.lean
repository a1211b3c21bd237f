/- The functions of package curve, and the document's, at whatever curve: one statement for both. By the verifier's side. -/
import Derived.Test.YtjjaaknjdmijbaaQeRefO
namespace Go.Proofs.Ytjjaaknjdmijbaa
open Go.RowKit
set_option linter.unusedSimpArgs false

theorem rowZ_nil (w : World) : RowZ w none 0 0 [] := ⟨rfl, Nat.le_refl _, Nat.zero_le _, by omega, fun i hi => absurd hi (Nat.not_lt_zero _), fun i hi => absurd hi (Nat.not_lt_zero _)⟩

/-- The normal form, or the zero curve. -/
def NormU (zs : List Int) (p inc : Int) (zs' : List Int) (p' inc' : Int) : Prop :=
  (∃ q q' : Nat, p = q ∧ p' = q' ∧ Good zs q inc ∧ NormC zs q inc zs' q' inc') ∨ (okC zs p inc = false ∧ zs' = [] ∧ p' = 0 ∧ inc' = 0)
/-- The start that a normal form has. -/
theorem NormU.start {zs xs : List Int} {p inc p1 i1 : Int} (h : NormU zs p inc xs p1 i1) : ∃ s : Nat, s ≤ 400 ∧ (xs.length : Int) = s + p1 := by
  rcases h with ⟨q, q1, rfl, rfl, g, h⟩ | ⟨_, rfl, rfl, rfl⟩
  · obtain ⟨b1, b2, b3, b4, b5, b6⟩ := norm_p3 g h
    exact ⟨xs.length - q1, by omega, by omega⟩
  · exact ⟨0, by omega, by simp⟩
set_option maxHeartbeats 400000 in
theorem small_any (a : Option Addr) (n cap : Nat) (p inc : Int) (b : Bool) (hb : decide (n ≤ 800) = b) (w : World) :
    Calls Try.prog 54 #[curV a n cap p inc] w (Says (.bool b) w) := by
  have HB := Lib.hid hb
  clear hb
  by_cases h : n ≤ 800
  · obtain rfl : b = true := by rw [← HB.out]; exact decide_eq_true h
    have h1 : (n : Int) ≤ 800 := by omega
    clear h
    go_enter Try.func54, Try.ntmps54
    go_wp2_with fail
    go_ret
    exact ⟨rfl, box_below _ _⟩
  · obtain rfl : b = false := by rw [← HB.out]; exact decide_eq_false h
    have h1 : ¬ (n : Int) ≤ 800 := by omega
    have h2 : decide ((n : Int) ≤ 800) = false := by simp; omega
    clear h
    go_enter Try.func54, Try.ntmps54
    go_wp2_with fail
    go_ret
    exact ⟨rfl, box_below _ _⟩

end Go.Proofs.Ytjjaaknjdmijbaa
