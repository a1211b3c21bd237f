/- Contracts of package pointwise: plus, lesser, greater, growth, the closures. By the verifier's side. -/
import Derived.Test.YtknimlpdpgpliaaEPwB
namespace Go.Proofs.Ytknimlpdpgpliaa
open Go.RowKit
set_option linter.unusedSimpArgs false

theorem Mid.bd {x : Int} (h : Mid x) : 0 ≤ x ∧ x ≤ 4611686018427387904 ∧ (x = 4611686018427387904 ∨ x ≤ 1125899906842624) := by
  unfold Mid infV at h; omega

set_option maxHeartbeats 400000 in
theorem pplus_any (a b : Int) (ha : Mid a) (hb : Mid b) (w : World) : Calls Try.prog 121 #[.int .i64 a, .int .i64 b] w fun e w' => e = .returned (.int .i64 (plI a b)) ∧ w' = w := by
  obtain ⟨a1, a2, a3⟩ := ha.bd
  obtain ⟨b1, b2, b3⟩ := hb.bd
  by_cases h1 : a = 4611686018427387904
  · subst h1
    have e : plI 4611686018427387904 b = 4611686018427387904 := plI_l b
    rw [e]
    clear ha hb
    go_enter Try.func121, Try.ntmps121
    go_wp2_with fail
    go_ret
    exact ⟨rfl, rfl⟩
  · by_cases h2 : b = 4611686018427387904
    · subst h2
      have e : plI a 4611686018427387904 = 4611686018427387904 := plI_r a
      rw [e]
      have t1 : (a == 4611686018427387904) = false := by simpa using h1
      clear ha hb h1
      go_enter Try.func121, Try.ntmps121
      go_wp2_with fail
      go_ret
      exact ⟨rfl, rfl⟩
    · have e : plI a b = a + b := plI_fin h1 h2
      rw [e]
      have t1 : (a == 4611686018427387904) = false := by simpa using h1
      have t2 : (b == 4611686018427387904) = false := by simpa using h2
      have a4 : a ≤ 1125899906842624 := by omega
      have b4 : b ≤ 1125899906842624 := by omega
      clear ha hb h1 h2 a3 b3 e
      go_enter Try.func121, Try.ntmps121
      go_wp2_with fail
      go_ret
      exact ⟨rfl, rfl⟩

/-! ## The closures -/

section
variable {fid : FuncId} {caps : Array Value} {T : Nat} {f : Nat → Int} {w : World} {bv bx : Nat} {x : Int}

end

end Go.Proofs.Ytknimlpdpgpliaa

namespace Go.Proofs.Ytknimlpdpgpliaa
open Go.RowKit
set_option linter.unusedSimpArgs false

theorem ClosG.congr {fid : FuncId} {caps : Array Value} {T : Nat} {f F : Nat → Int} {w : World} (h : ClosG fid caps T f w) (he : ∀ t, t < T → f t = F t) : ClosG fid caps T F w :=
  fun ti t v w' h1 h2 h3 h4 => h ti t v w' h1 h2 ((he t h2).trans h3) h4

end Go.Proofs.Ytknimlpdpgpliaa
