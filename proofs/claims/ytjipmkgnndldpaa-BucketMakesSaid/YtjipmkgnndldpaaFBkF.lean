/- Contracts of fractions that stage 11 asks: Valid of the program, Add and Compare of the document. Taken out of the texts of stage 1. By the verifier's side. -/
import Derived.Test.YtjipmkgnndldpaaFRefO
import Derived.Lib.Small
namespace Go.Proofs.Ytjipmkgnndldpaa
open Go.RowKit
set_option linter.unusedSimpArgs false

set_option maxHeartbeats 800000 in
theorem valid_out (n d : Int) (h : ¬ (1 ≤ d ∧ d ≤ 1073741824 ∧ -1073741824 ≤ n ∧ n ≤ 1073741824)) (w : World) :
    Calls Try.prog 195 #[.agg #[.int .i64 n, .int .i64 d]] w (Says (.bool (okF n d)) w) := by
  rw [okF_no n d h]
  by_cases h1 : d < 1
  · clear h
    go_enter Try.func195, Try.ntmps195
    go_wp2_with fail
    go_ret
    exact ⟨rfl, (Below.refl _ _).alloc (Nat.le_refl _) _⟩
  · by_cases h2 : 1073741824 < d
    · clear h
      go_enter Try.func195, Try.ntmps195
      go_wp2_with fail
      go_ret
      exact ⟨rfl, (Below.refl _ _).alloc (Nat.le_refl _) _⟩
    · by_cases h3 : n < -1073741824
      · clear h
        go_enter Try.func195, Try.ntmps195
        go_wp2_with fail
        go_ret
        exact ⟨rfl, (Below.refl _ _).alloc (Nat.le_refl _) _⟩
      · have h4 : 1073741824 < n := by omega
        clear h
        go_enter Try.func195, Try.ntmps195
        go_wp2_with fail
        go_ret
        exact ⟨rfl, (Below.refl _ _).alloc (Nat.le_refl _) _⟩

theorem magnitude_q (n : Int) (hn : In64 n) (w : World) :
    Calls Try.prog 268 #[.int .i64 n] w fun e w' => e = .returned (.int .u64 (n.natAbs : Int)) ∧ w' = w :=
  (magnitude_any n hn w).mono fun _ _ h => ⟨h.1, h.2.symm⟩

set_option maxHeartbeats 800000 in
theorem valid_in (n d : Int) (c : Bool) (k1 : 1 ≤ d) (k2 : d ≤ 1073741824) (k3 : -1073741824 ≤ n) (k4 : n ≤ 1073741824) (hc : (((Nat.gcd n.natAbs d.natAbs : Nat) : Int) == 1) = c) (w : World) :
    Calls Try.prog 195 #[.agg #[.int .i64 n, .int .i64 d]] w (Says (.bool c) w) := by
  have hn : In64 n := ⟨by omega, by omega⟩
  have hd : In64 d := ⟨by omega, by omega⟩
  have b1 : n.natAbs < 18446744073709551616 := by omega
  have b2 : d.natAbs < 18446744073709551616 := by omega
  go_enter Try.func195, Try.ntmps195
  go_wp2_with fail
  go_quiet ((first | (go_at_call 268; exact Calls.quiet_of_same (magnitude_q _ (by assumption) _)) | (go_at_call 267; exact Calls.quiet_of (divisor_any _ _ b1 b2 _))))
  go_wp2_with fail
  go_ret
  exact ⟨rfl, ((Below.refl _ _).alloc (Nat.le_refl _) _).drewN _⟩

/-- fraction.Valid, whatever it is given. -/
theorem valid_all (n d : Int) (c : Bool) (hc : okF n d = c) (w : World) : Calls Try.prog 195 #[.agg #[.int .i64 n, .int .i64 d]] w (Says (.bool c) w) := by
  subst hc
  by_cases h : 1 ≤ d ∧ d ≤ 1073741824 ∧ -1073741824 ≤ n ∧ n ≤ 1073741824
  · refine valid_in n d _ h.1 h.2.1 h.2.2.1 h.2.2.2 ?_ w
    rw [Bool.eq_iff_iff, okF_iff]
    simp only [beq_iff_eq]
    omega
  · exact valid_out n d h w

theorem fr_one1 {w w1 : World} {o1 : Obj} (hb : Below (w.alloc o1).heap.size (w.alloc o1) w1) : Below w.heap.size w w1 :=
  ((Below.refl _ _).alloc (Nat.le_refl _) o1).trans (hb.mono (by simp))

end Go.Proofs.Ytjipmkgnndldpaa
