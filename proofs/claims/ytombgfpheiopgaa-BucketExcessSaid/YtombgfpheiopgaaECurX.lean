/- Contracts: the document's Gcd and Lcm; slices.Equal at numbers; curve.Same, curve.Equal. By the verifier's side. -/
import Derived.Test.YtombgfpheiopgaaECurveGrowsW
import Derived.Deep.RegionHeld3
namespace Go.Proofs.Ytombgfpheiopgaa
open Go.RowKit
set_option linter.unusedSimpArgs false

set_option maxHeartbeats 400000 in
theorem gcd_any (a b : Nat) (ha : a < 9223372036854775808) (hb : b < 9223372036854775808) (w : World) :
    Calls Try.prog 179 #[.int .i64 a, .int .i64 b] w (Drew (.int .i64 (Nat.gcd a b : Nat)) w) := by
  go_enter Try.func179, Try.ntmps179
  go_wp2
  go_loopw [0, 1] (fun va vb wr => ∃ x y : Nat, va = .int .i64 x ∧ vb = .int .i64 y ∧ x < 9223372036854775808 ∧ y < 9223372036854775808 ∧ Hid (Nat.gcd x y = Nat.gcd a b) ∧ ∃ m, wr = w.drewN m) (fun _ vb _ => (intOf vb).toNat)
  case atStart => exact ⟨a, b, rfl, rfl, ha, hb, rfl, 0, rfl⟩
  case round =>
    obtain ⟨x, y, rfl, rfl, hx, hy, hg, m, rfl⟩ := hrel
    by_cases h0 : y = 0
    · subst h0
      go_wp2
      go_ret
      exact ⟨ret_int (by have := hg.out; simp at this; omega), m, rfl⟩
    · have hy0 : 0 < y := by omega
      have hlt := Nat.mod_lt x hy0
      go_wp2
      go_quiet (fail)
      go_wp2
      go_roundw
      case rel => exact ⟨y, x % y, rfl, by rw [Int.natCast_emod], hy, by omega, (gcd_step x y).trans hg.out, m + _, World.drewN_drewN _ _ _⟩
      case measure => simp [intOf]; omega

section
variable {W u v : World} {F : Nat} {a : Option Addr} {n cap p : Nat} {inc : Int} {zs : List Int} {G : Nat} {b : Option Addr} {m cup q : Nat} {jnc : Int} {ys : List Int}
end

end Go.Proofs.Ytombgfpheiopgaa
