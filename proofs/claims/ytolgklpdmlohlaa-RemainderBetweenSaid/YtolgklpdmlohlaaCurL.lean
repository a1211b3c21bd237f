/- Contracts: curve.fault, Line, Wait, for arguments within the limits. By the verifier's side. -/
import Derived.Test.YtolgklpdmlohlaaCurS
import Derived.Test.YtolgklpdmlohlaaCurG
namespace Go.Proofs.Ytolgklpdmlohlaa
open Go.RowKit
set_option linter.unusedSimpArgs false

def lineF (x : Int) (t : Nat) : Int := x * (t : Int)
def waitF (x : Int) (t : Nat) : Int := if (t : Int) ≤ x then 0 else 4611686018427387904

set_option maxHeartbeats 400000 in
theorem fault_ok (n m : Int) (h0 : 0 ≤ n) (h1 : n ≤ m) (w : World) : Calls Try.prog 62 #[.int .i64 n, .int .i64 m] w fun e w' => e = .returned (.int .i64 0) ∧ w = w' := by
  go_enter Try.func62, Try.ntmps62
  go_wp2
  go_ret
  exact ⟨rfl, rfl⟩

theorem line_good (x : Int) (h0 : 0 ≤ x) (h1 : x ≤ 1073741824) : Good (firsts (lineF x) 1) 1 x := by
  have e : firsts (lineF x) 1 = [0] := by simp [firsts, lineF]
  rw [e]
  refine ⟨by simp, by omega, by omega, by simp, h0, h1, fun i hi => ?_, fun i hi => by simp at hi, fun hx => ?_, fun _ => ?_⟩
  · obtain rfl : i = 0 := by simp at hi; omega
    exact .inl ⟨by simp, by simp⟩
  · simp [infV] at hx
  · simp; exact h0

theorem wait_getD (k i : Nat) (h : i < k + 2) : (firsts (waitF k) (k + 2)).getD i 0 = if i ≤ k then 0 else infV := by
  rw [firsts_getD _ _ _ h]
  unfold waitF infV
  by_cases hk : i ≤ k
  · rw [if_pos (by omega), if_pos hk]
  · rw [if_neg (by omega), if_neg hk]

theorem wait_good (k : Nat) (h1 : k ≤ 398) : Good (firsts (waitF k) (k + 2)) 1 0 := by
  have hl := firsts_length (waitF k) (k + 2)
  refine ⟨by omega, by omega, by omega, by omega, by omega, by omega, fun i hi => ?_, fun i hi => ?_, fun _ => ⟨rfl, rfl⟩, fun hx => ?_⟩
  · rw [hl] at hi
    rw [wait_getD _ _ hi]
    split
    · exact .inl ⟨by omega, by omega⟩
    · exact .inr rfl
  · rw [hl] at hi
    rw [wait_getD _ _ (by omega), wait_getD _ _ hi]
    unfold infV
    split <;> split <;> omega
  · exact absurd (by rw [hl, wait_getD _ _ (by omega), if_neg (by omega)]) hx

end Go.Proofs.Ytolgklpdmlohlaa
