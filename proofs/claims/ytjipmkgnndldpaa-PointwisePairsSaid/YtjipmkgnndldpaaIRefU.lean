/- The functions of package curve, and the document's, at whatever curve: one statement for both. By the verifier's side. -/
import Derived.Test.YtjipmkgnndldpaaIRefO
namespace Go.Proofs.Ytjipmkgnndldpaa
open Go.RowKit
set_option linter.unusedSimpArgs false

set_option maxHeartbeats 400000 in
theorem small_any (a : Option Addr) (n cap : Nat) (p inc : Int) (b : Bool) (hb : decide (n ≤ 800) = b) (w : World) :
    Calls Try.prog 38 #[curV a n cap p inc] w (Says (.bool b) w) := by
  have HB := Lib.hid hb
  clear hb
  by_cases h : n ≤ 800
  · obtain rfl : b = true := by rw [← HB.out]; exact decide_eq_true h
    have h1 : (n : Int) ≤ 800 := by omega
    clear h
    go_enter Try.func38, Try.ntmps38
    go_wp2_with fail
    go_ret
    exact ⟨rfl, box_below _ _⟩
  · obtain rfl : b = false := by rw [← HB.out]; exact decide_eq_false h
    have h1 : ¬ (n : Int) ≤ 800 := by omega
    have h2 : decide ((n : Int) ≤ 800) = false := by simp; omega
    clear h
    go_enter Try.func38, Try.ntmps38
    go_wp2_with fail
    go_ret
    exact ⟨rfl, box_below _ _⟩

end Go.Proofs.Ytjipmkgnndldpaa
