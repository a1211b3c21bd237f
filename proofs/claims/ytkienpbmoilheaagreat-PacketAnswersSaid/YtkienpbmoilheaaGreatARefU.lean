/- The functions of package curve, and the document's, at whatever curve: one statement for both. By the verifier's side. -/
import Derived.Test.YtkienpbmoilheaaGreatARefPRefO
namespace Go.Proofs.YtkienpbmoilheaaGreat
open Go.RowKit
set_option linter.unusedSimpArgs false

theorem rowZ_nil (w : World) : RowZ w none 0 0 [] := ⟨rfl, Nat.le_refl _, Nat.zero_le _, by omega, fun i hi => absurd hi (Nat.not_lt_zero _), fun i hi => absurd hi (Nat.not_lt_zero _)⟩

set_option maxHeartbeats 400000 in
theorem small_any (a : Option Addr) (n cap : Nat) (p inc : Int) (b : Bool) (hb : decide (n ≤ 800) = b) (w : World) :
    Calls Tryz.prog 4 #[curV a n cap p inc] w (Says (.bool b) w) := by
  have HB := Lib.hid hb
  clear hb
  by_cases h : n ≤ 800
  · obtain rfl : b = true := by rw [← HB.out]; exact decide_eq_true h
    have h1 : (n : Int) ≤ 800 := by omega
    clear h
    go_enter Tryz.func4, Tryz.ntmps4
    go_wp2_with fail
    go_ret
    exact ⟨rfl, box_below _ _⟩
  · obtain rfl : b = false := by rw [← HB.out]; exact decide_eq_false h
    have h1 : ¬ (n : Int) ≤ 800 := by omega
    have h2 : decide ((n : Int) ≤ 800) = false := by simp; omega
    clear h
    go_enter Tryz.func4, Tryz.ntmps4
    go_wp2_with fail
    go_ret
    exact ⟨rfl, box_below _ _⟩

end Go.Proofs.YtkienpbmoilheaaGreat
