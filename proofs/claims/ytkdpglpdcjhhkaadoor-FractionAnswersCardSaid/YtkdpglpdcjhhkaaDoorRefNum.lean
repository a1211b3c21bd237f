/- Contracts of the document's own package of layer 1: Gcd, abs, Valid, New. By the verifier's side. -/
import Derived.Test.YtkdpglpdcjhhkaaDoorFracB
import Derived.Test.YtkdpglpdcjhhkaaDoorMathB
namespace Go.Proofs.YtkdpglpdcjhhkaaDoor
open Go.RowKit
set_option linter.unusedSimpArgs false

set_option maxHeartbeats 400000 in
theorem gcd_any (a b : Nat) (ha : a < 9223372036854775808) (hb : b < 9223372036854775808) (w : World) :
    Calls Tryd.prog 42 #[.int .i64 a, .int .i64 b] w (Drew (.int .i64 (Nat.gcd a b : Nat)) w) := by
  go_enter Tryd.func42, Tryd.ntmps42
  go_wp2
  go_loopw [0, 1] (fun va vb wr => ∃ x y : Nat, va = .int .i64 x ∧ vb = .int .i64 y ∧ x < 9223372036854775808 ∧ y < 9223372036854775808 ∧ Hid (Nat.gcd x y = Nat.gcd a b) ∧ ∃ m, wr = w.drewN m) (fun _ vb _ => (intOf vb).toNat)
  case atStart => exact ⟨a, b, rfl, rfl, ha, hb, rfl, 0, rfl⟩
  case round =>
    obtain ⟨x, y, rfl, rfl, hx, hy, hg, m, rfl⟩ := hrel
    by_cases h0 : y = 0
    · subst h0
      go_wp2
      go_ret
      exact ⟨ret_int (by have := hg.out; simp at this; omega), m, rfl⟩
    · have hy0 : 0 < y := by omega
      have hlt := Nat.mod_lt x hy0
      go_wp2
      go_quiet (fail)
      go_wp2
      go_roundw
      case rel => exact ⟨y, x % y, rfl, by rw [Int.natCast_emod], hy, by omega, (gcd_step x y).trans hg.out, m + _, World.drewN_drewN _ _ _⟩
      case measure => simp [intOf]; omega

set_option maxHeartbeats 400000 in
theorem abs_any (n : Int) (h1 : -9223372036854775807 ≤ n) (h2 : n ≤ 9223372036854775807) (w : World) :
    Calls Tryd.prog 43 #[.int .i64 n] w fun e w' => e = .returned (.int .i64 (n.natAbs : Int)) ∧ w' = w := by
  by_cases h : n < 0
  · go_enter Tryd.func43, Tryd.ntmps43
    go_wp2
    all_goals (go_ret; exact ⟨ret_int (by omega), rfl⟩)
  · go_enter Tryd.func43, Tryd.ntmps43
    go_wp2
    all_goals (go_ret; exact ⟨ret_int (by omega), rfl⟩)

set_option maxHeartbeats 800000 in
theorem rvalid_any (n d : Int) (c : Bool) (hc : okF n d = c) (w : World) : Calls Tryd.prog 19 #[.agg #[.int .i64 n, .int .i64 d]] w (Says (.bool c) w) := by
  by_cases h1 : 1 ≤ d
  · by_cases h2 : d ≤ 1073741824
    · by_cases h3 : -1073741824 ≤ n
      · by_cases h4 : n ≤ 1073741824
        · have hk : (((Nat.gcd n.natAbs d.natAbs : Nat) : Int) == 1) = c := by
            rw [← hc, Bool.eq_iff_iff, okF_iff]
            simp only [beq_iff_eq]
            omega
          have a1 : d.natAbs = d.toNat := by omega
          obtain ⟨D, rfl⟩ := Int.eq_ofNat_of_zero_le (show 0 ≤ d by omega)
          have e1 : ((D : Int)).natAbs = D := rfl
          rw [e1] at hk
          have b1 : n.natAbs < 9223372036854775808 := by omega
          have b2 : D < 9223372036854775808 := by omega
          clear hc a1 e1
          go_enter Tryd.func19, Tryd.ntmps19
          go_wp2_with fail
          go_quiet ((first | (go_at_call 43; exact Calls.quiet_of_same (abs_any _ (by omega) (by omega) _)) | (go_at_call 42; exact Calls.quiet_of (gcd_any _ _ b1 b2 _))))
          go_wp2_with fail
          go_ret
          exact ⟨rfl, ((Below.refl _ _).alloc (Nat.le_refl _) _).drewN _⟩
        · rw [okF_no n d (by omega)] at hc
          subst hc
          have t1 : decide (n ≤ 1073741824) = false := by simpa using h4
          go_enter Tryd.func19, Tryd.ntmps19
          go_wp2_with fail
          go_quiet (fail)
          go_wp2_with fail
          go_ret
          exact ⟨rfl, ((Below.refl _ _).alloc (Nat.le_refl _) _).drewN _⟩
      · rw [okF_no n d (by omega)] at hc
        subst hc
        have t1 : decide (-1073741824 ≤ n) = false := by simpa using h3
        go_enter Tryd.func19, Tryd.ntmps19
        go_wp2_with fail
        go_quiet (fail)
        go_wp2_with fail
        go_ret
        exact ⟨rfl, ((Below.refl _ _).alloc (Nat.le_refl _) _).drewN _⟩
    · rw [okF_no n d (by omega)] at hc
      subst hc
      have t1 : decide (d ≤ 1073741824) = false := by simpa using h2
      go_enter Tryd.func19, Tryd.ntmps19
      go_wp2_with fail
      go_quiet (fail)
      go_wp2_with fail
      go_ret
      exact ⟨rfl, ((Below.refl _ _).alloc (Nat.le_refl _) _).drewN _⟩
  · rw [okF_no n d (by omega)] at hc
    subst hc
    have t1 : decide (1 ≤ d) = false := by simpa using h1
    go_enter Tryd.func19, Tryd.ntmps19
    go_wp2_with fail
    go_quiet (fail)
    go_wp2_with fail
    go_ret
    exact ⟨rfl, ((Below.refl _ _).alloc (Nat.le_refl _) _).drewN _⟩

end Go.Proofs.YtkdpglpdcjhhkaaDoor
