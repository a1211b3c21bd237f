/- Contracts: curve.fault, Line, Wait, for arguments within the limits. By the verifier's side. -/
import Derived.Test.YtladmpoopfabdaaCurS
import Derived.Test.YtladmpoopfabdaaCurG
namespace Go.Proofs.Ytladmpoopfabdaa
open Go.RowKit
set_option linter.unusedSimpArgs false

def lineF (x : Int) (t : Nat) : Int := x * (t : Int)
def waitF (x : Int) (t : Nat) : Int := if (t : Int) ≤ x then 0 else 4611686018427387904

set_option maxHeartbeats 400000 in
theorem wait_at (x : Int) (rb : Nat) (ti : Int) (t : Nat) (hti : ti = t) (v : Int) (hv : waitF x t = v) (w : World) (hc : w.cell? ⟨rb, 0, none⟩ = some (.int .i64 x)) :
    Calls Try.prog 107 #[.int .i64 ti, .pointer (some ⟨rb, 0, none⟩)] w fun e w' => e = .returned (.int .i64 v) ∧ w = w' := by
  subst hti
  by_cases h : (t : Int) ≤ x
  · have e : v = 0 := by rw [← hv]; unfold waitF; rw [if_pos h]
    subst e
    clear hv
    go_enter Try.func107, Try.ntmps107
    go_wp2
    go_ret
    exact ⟨rfl, rfl⟩
  · have e : v = 4611686018427387904 := by rw [← hv]; unfold waitF; rw [if_neg h]
    subst e
    clear hv
    go_enter Try.func107, Try.ntmps107
    go_wp2
    go_ret
    exact ⟨rfl, rfl⟩


set_option maxHeartbeats 400000 in
theorem fault_ok (n m : Int) (h0 : 0 ≤ n) (h1 : n ≤ m) (w : World) : Calls Try.prog 105 #[.int .i64 n, .int .i64 m] w fun e w' => e = .returned (.int .i64 0) ∧ w = w' := by
  go_enter Try.func105, Try.ntmps105
  go_wp2
  go_ret
  exact ⟨rfl, rfl⟩

theorem line_good (x : Int) (h0 : 0 ≤ x) (h1 : x ≤ 1073741824) : Good (firsts (lineF x) 1) 1 x := by
  have e : firsts (lineF x) 1 = [0] := by simp [firsts, lineF]
  rw [e]
  refine ⟨by simp, by omega, by omega, by simp, h0, h1, fun i hi => ?_, fun i hi => by simp at hi, fun hx => ?_, fun _ => ?_⟩
  · obtain rfl : i = 0 := by simp at hi; omega
    exact .inl ⟨by simp, by simp⟩
  · simp [infV] at hx
  · simp; exact h0

theorem wait_getD (k i : Nat) (h : i < k + 2) : (firsts (waitF k) (k + 2)).getD i 0 = if i ≤ k then 0 else infV := by
  rw [firsts_getD _ _ _ h]
  unfold waitF infV
  by_cases hk : i ≤ k
  · rw [if_pos (by omega), if_pos hk]
  · rw [if_neg (by omega), if_neg hk]

theorem wait_good (k : Nat) (h1 : k ≤ 398) : Good (firsts (waitF k) (k + 2)) 1 0 := by
  have hl := firsts_length (waitF k) (k + 2)
  refine ⟨by omega, by omega, by omega, by omega, by omega, by omega, fun i hi => ?_, fun i hi => ?_, fun _ => ⟨rfl, rfl⟩, fun hx => ?_⟩
  · rw [hl] at hi
    rw [wait_getD _ _ hi]
    split
    · exact .inl ⟨by omega, by omega⟩
    · exact .inr rfl
  · rw [hl] at hi
    rw [wait_getD _ _ (by omega), wait_getD _ _ hi]
    unfold infV
    split <;> split <;> omega
  · exact absurd (by rw [hl, wait_getD _ _ (by omega), if_neg (by omega)]) hx

set_option maxHeartbeats 800000 in
theorem wait_ok (k : Nat) (h1 : k ≤ 398) (w : World) : Calls Try.prog 65 #[.int .i64 k] w (GivesNorm2 (firsts (waitF k) (k + 2)) 1 0 w) := by
  have hmf : ∀ (fn : Fn) (first cap : Array Value) (w : World), (Instr.makeFunc fn first cap).run Try.prog w = .ok (.func fn first cap) w := fun _ _ _ _ => rfl
  have KR := Lib.hid (Cur3.new2 w (.slice none 0 0) (.int .i64 0) (.int .i64 0) 24 (.cells #[.int .i64 k] 3))
  have HB := Lib.hid (((Below.refl _ _).alloc (Nat.le_refl _) (.cells #[.int .i64 k] 3)).alloc (by simp) (.cells #[.slice none 0 0, .int .i64 0, .int .i64 0] 24) : Below w.heap.size w _)
  have hk0 : (0 : Int) ≤ (k : Int) := by omega
  have hk1 : (k : Int) ≤ 398 := by omega
  go_enter Try.func65, Try.ntmps65
  go_wp2_with fail
  refine (fault_ok k 398 hk0 hk1 _).mono ?_
  rintro e w1 ⟨rfl, rfl⟩
  go_wp2_with fail
  have hc : ((w.alloc (.cells #[.int .i64 k] 3)).alloc (.cells #[.slice none 0 0, .int .i64 0, .int .i64 0] 24)).cell? ⟨w.heap.size, 0, none⟩ = some (.int .i64 k) := by go_simp
  have HC := Lib.hid hc
  clear hc
  refine (steady_any 107 w.heap.size (waitF k) (fun t ht => ?_) (k + 1) (by omega) _ (enters_of Try.func107 (by kernel_rfl) rfl) (fun ti t v w' hti ht hv hb => wait_at k _ ti t hti v hv _ ((hb.cell (lt_of_cell HC.out)).trans HC.out)) 0 ?_ (wait_good k h1)).mono ?_
  · unfold waitF; split <;> omega
  · unfold waitF; rw [if_neg (by omega), if_neg (by omega)]; rfl
  rintro e w2 ⟨a', n', cap', zs', p', inc', rfl, hb2, hr2, hn2, hx2⟩
  obtain ⟨c0, c1, c2, f0, f1, f2⟩ := KR.out.below hb2
  have hlt3 := KR.out.lt
  have HP := Lib.hid (norm_post2 (b := w.heap.size + 1) (HB.out.trans (hb2.mono HB.out.size)) (Nat.le_succ _) hr2 (fun y hy => by have := hx2 y hy; omega) p' inc' hn2)
  clear hb2 hr2 hn2 hx2 hlt3
  go_wp2_with fail
  exact bodyPost_ret (v := .tuple #[curV a' n' cap' p' inc', .int .i64 0]) (by simp [results, Try.results65, go_sem, c0, c1, c2]) rfl HP.out

end Go.Proofs.Ytladmpoopfabdaa
