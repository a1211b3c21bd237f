/- Contracts: the document's Gcd and Lcm; slices.Equal at numbers; curve.Same, curve.Equal. By the verifier's side. -/
import Derived.Test.YtkienpbmoilheaaGreatACurWToCurveGrowsW
import Derived.Deep.RegionHeld3
namespace Go.Proofs.YtkienpbmoilheaaGreat
open Go.RowKit
set_option linter.unusedSimpArgs false

set_option maxHeartbeats 400000 in
theorem gcd_any (a b : Nat) (ha : a < 9223372036854775808) (hb : b < 9223372036854775808) (w : World) :
    Calls Tryz.prog 106 #[.int .i64 a, .int .i64 b] w (Drew (.int .i64 (Nat.gcd a b : Nat)) w) := by
  go_enter Tryz.func106, Tryz.ntmps106
  go_wp2
  go_loopw [0, 1] (fun va vb wr => ∃ x y : Nat, va = .int .i64 x ∧ vb = .int .i64 y ∧ x < 9223372036854775808 ∧ y < 9223372036854775808 ∧ Hid (Nat.gcd x y = Nat.gcd a b) ∧ ∃ m, wr = w.drewN m) (fun _ vb _ => (intOf vb).toNat)
  case atStart => exact ⟨a, b, rfl, rfl, ha, hb, rfl, 0, rfl⟩
  case round =>
    obtain ⟨x, y, rfl, rfl, hx, hy, hg, m, rfl⟩ := hrel
    by_cases h0 : y = 0
    · subst h0
      go_wp2
      go_ret
      exact ⟨ret_int (by have := hg.out; simp at this; omega), m, rfl⟩
    · have hy0 : 0 < y := by omega
      have hlt := Nat.mod_lt x hy0
      go_wp2
      go_quiet (fail)
      go_wp2
      go_roundw
      case rel => exact ⟨y, x % y, rfl, by rw [Int.natCast_emod], hy, by omega, (gcd_step x y).trans hg.out, m + _, World.drewN_drewN _ _ _⟩
      case measure => simp [intOf]; omega

set_option maxHeartbeats 400000 in

set_option maxHeartbeats 400000 in
theorem lcm_any (a b : Nat) (ha : 1 ≤ a) (ha2 : a ≤ 1000) (hb : 1 ≤ b) (hb2 : b ≤ 1000) (w : World) :
    Calls Tryz.prog 99 #[.int .i64 a, .int .i64 b] w (Drew (.int .i64 (a / Nat.gcd a b * b : Nat)) w) := by
  obtain ⟨g, hg⟩ : ∃ g, Nat.gcd a b = g := ⟨_, rfl⟩
  have hg1 : 1 ≤ (g : Int) := by have := Nat.gcd_pos_of_pos_left b (show 0 < a by omega); omega
  obtain ⟨q, hq⟩ : ∃ q, a / g = q := ⟨_, rfl⟩
  have hqa : q ≤ a := by rw [← hq]; exact Nat.div_le_self _ _
  obtain ⟨m, hm⟩ : ∃ m, q * b = m := ⟨_, rfl⟩
  have hmb : m ≤ 1000 * 1000 := by rw [← hm]; exact Nat.mul_le_mul (by omega) hb2
  have h1 : (a : Int) / (g : Int) = (q : Int) := by rw [← hq]; simp
  have h2 : IntKind.i64.wrap ((a : Int) / (g : Int)) = (q : Int) := by rw [h1]; exact IntWalk.i64_in _ ⟨by omega, by omega⟩
  have h3 : IntKind.i64.wrap ((q : Int) * (b : Int)) = (m : Int) := by rw [show (q : Int) * (b : Int) = (m : Int) by rw [← hm]; simp]; exact IntWalk.i64_in _ ⟨by omega, by omega⟩
  have HG := Lib.hid (And.intro hg (And.intro hq hm))
  rw [hg, hq, hm]
  clear hg hq hm
  go_enter Tryz.func99, Tryz.ntmps99
  go_wp2_with fail
  refine (gcd_any a b (by omega) (by omega) _).mono ?_
  rintro e w1 ⟨rfl, k, rfl⟩
  rw [HG.out.1]
  go_wp2_with fail
  go_ret
  exact ⟨rfl, k, rfl⟩

theorem lcm_at (a b L : Nat) (hL : a / Nat.gcd a b * b = L) (ha : 1 ≤ a) (ha2 : a ≤ 1000) (hb : 1 ≤ b) (hb2 : b ≤ 1000) (w : World) :
    Calls Tryz.prog 99 #[.int .i64 a, .int .i64 b] w (Drew (.int .i64 L) w) := by subst hL; exact lcm_any a b ha ha2 hb hb2 w

section
variable {W u v : World} {F : Nat} {a : Option Addr} {n cap p : Nat} {inc : Int} {zs : List Int} {G : Nat} {b : Option Addr} {m cup q : Nat} {jnc : Int} {ys : List Int}
end

end Go.Proofs.YtkienpbmoilheaaGreat
