/- Contracts: curve.fault, Line, Wait, for arguments within the limits. By the verifier's side. -/
import Derived.Test.YtkienpbmoilheaaECurSLongKeepC
import Derived.Test.YtkienpbmoilheaaECurFCurG
namespace Go.Proofs.Ytkienpbmoilheaa
open Go.RowKit
set_option linter.unusedSimpArgs false

def lineF (x : Int) (t : Nat) : Int := x * (t : Int)
set_option maxHeartbeats 400000 in
theorem line_at (x : Int) (hx0 : 0 ≤ x) (hx1 : x ≤ 1073741824) (rb : Nat) (ti : Int) (t : Nat) (hti : ti = t) (ht : t ≤ 1000) (v : Int) (hv : lineF x t = v) (w : World) (hc : w.cell? ⟨rb, 0, none⟩ = some (.int .i64 x)) :
    Calls Try.prog 277 #[.int .i64 ti, .pointer (some ⟨rb, 0, none⟩)] w fun e w' => e = .returned (.int .i64 v) ∧ w = w' := by
  subst hti
  have hm : x * (t : Int) ≤ 1073741824 * 1000 := Int.mul_le_mul hx1 (by omega) (by omega) (by omega)
  have hm0 : 0 ≤ x * (t : Int) := Int.mul_nonneg hx0 (by omega)
  have hw : IntKind.i64.wrap (x * (t : Int)) = v := by rw [← hv]; exact IntWalk.i64_in _ ⟨by omega, by omega⟩
  clear hv hm hm0
  go_enter Try.func277, Try.ntmps277
  go_wp2
  go_ret
  exact ⟨rfl, rfl⟩

set_option maxHeartbeats 400000 in
theorem fault_ok (n m : Int) (h0 : 0 ≤ n) (h1 : n ≤ m) (w : World) : Calls Try.prog 217 #[.int .i64 n, .int .i64 m] w fun e w' => e = .returned (.int .i64 0) ∧ w = w' := by
  go_enter Try.func217, Try.ntmps217
  go_wp2
  go_ret
  exact ⟨rfl, rfl⟩

theorem line_good (x : Int) (h0 : 0 ≤ x) (h1 : x ≤ 1073741824) : Good (firsts (lineF x) 1) 1 x := by
  have e : firsts (lineF x) 1 = [0] := by simp [firsts, lineF]
  rw [e]
  refine ⟨by simp, by omega, by omega, by simp, h0, h1, fun i hi => ?_, fun i hi => by simp at hi, fun hx => ?_, fun _ => ?_⟩
  · obtain rfl : i = 0 := by simp at hi; omega
    exact .inl ⟨by simp, by simp⟩
  · simp [infV] at hx
  · simp; exact h0

set_option maxHeartbeats 800000 in
theorem line_ok (x : Int) (h0 : 0 ≤ x) (h1 : x ≤ 1073741824) (w : World) : Calls Try.prog 201 #[.int .i64 x] w (GivesNorm2 (firsts (lineF x) 1) 1 x w) := by
  have hmf : ∀ (fn : Fn) (first cap : Array Value) (w : World), (Instr.makeFunc fn first cap).run Try.prog w = .ok (.func fn first cap) w := fun _ _ _ _ => rfl
  have KR := Lib.hid (Cur3.new2 w (.slice none 0 0) (.int .i64 0) (.int .i64 0) 24 (.cells #[.int .i64 x] 3))
  have HB := Lib.hid (((Below.refl _ _).alloc (Nat.le_refl _) (.cells #[.int .i64 x] 3)).alloc (by simp) (.cells #[.slice none 0 0, .int .i64 0, .int .i64 0] 24) : Below w.heap.size w _)
  go_enter Try.func201, Try.ntmps201
  go_wp2_with fail
  refine (fault_ok x 1073741824 h0 h1 _).mono ?_
  rintro e w1 ⟨rfl, rfl⟩
  go_wp2_with fail
  have hc : ((w.alloc (.cells #[.int .i64 x] 3)).alloc (.cells #[.slice none 0 0, .int .i64 0, .int .i64 0] 24)).cell? ⟨w.heap.size, 0, none⟩ = some (.int .i64 x) := by go_simp
  have HC := Lib.hid hc
  clear hc
  refine (steady_any 277 w.heap.size (lineF x) (fun t ht => ?_) 0 (by omega) _ (enters_of Try.func277 (by kernel_rfl) rfl) (fun ti t v w' hti ht hv hb => line_at x h0 h1 _ ti t hti (by omega) v hv _ ((hb.cell (lt_of_cell HC.out)).trans HC.out)) x (by simp [lineF]) (line_good x h0 h1)).mono ?_
  · have hm : x * (t : Int) ≤ 1073741824 * 1000 := Int.mul_le_mul h1 (by omega) (by omega) (by omega)
    exact ⟨Int.mul_nonneg h0 (by omega), by unfold lineF; omega⟩
  rintro e w2 ⟨a', n', cap', zs', p', inc', rfl, hb2, hr2, hn2, hx2⟩
  obtain ⟨c0, c1, c2, f0, f1, f2⟩ := KR.out.below hb2
  have hlt3 := KR.out.lt
  have HP := Lib.hid (norm_post2 (b := w.heap.size + 1) (HB.out.trans (hb2.mono HB.out.size)) (Nat.le_succ _) hr2 (fun y hy => by have := hx2 y hy; omega) p' inc' hn2)
  clear hb2 hr2 hn2 hx2 hlt3
  go_wp2_with fail
  exact bodyPost_ret (v := .tuple #[curV a' n' cap' p' inc', .int .i64 0]) (by simp [results, Try.results201, go_sem, c0, c1, c2]) rfl HP.out

end Go.Proofs.Ytkienpbmoilheaa
