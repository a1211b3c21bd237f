/- The document's Bytes. By the verifier's side. -/
import Derived.Test.YtkienpbmoilheaaETrX
import Derived.Test.YtkienpbmoilheaaETrSTrTTrU
namespace Go.Proofs.Ytkienpbmoilheaa
open Go.RowKit
set_option linter.unusedSimpArgs false
set_option linter.unusedVariables false

theorem ofFlow_iff (fl : Int) (q : Pk) : ofFlow fl q = true ↔ (-1 ≤ fl ∧ (fl = -1 ∨ q.f = fl)) := by
  unfold ofFlow; simp only [Bool.and_eq_true, Bool.or_eq_true, decide_eq_true_eq]
theorem bk_yes {fl t : Int} {l : List Pk} {k : Nat} {q : Pk} (hq : l[k]? = some q) (h1 : q.t < t) (h2 : -1 ≤ fl) (h3 : fl = -1 ∨ q.f = fl) : IntKind.i64.wrap (bytW t (sel fl (l.take k)) + q.s) = bytW t (sel fl (l.take (k + 1))) := by
  rw [sel_take hq, if_pos ((ofFlow_iff fl q).2 ⟨h2, h3⟩), bytW_yes h1]
theorem bk_no {fl t : Int} {l : List Pk} {k : Nat} {q : Pk} (hq : l[k]? = some q) (h : ¬ (q.t < t ∧ -1 ≤ fl ∧ (fl = -1 ∨ q.f = fl))) : bytW t (sel fl (l.take k)) = bytW t (sel fl (l.take (k + 1))) := by
  rw [sel_take hq]
  by_cases c : ofFlow fl q = true
  · rw [if_pos c, bytW_no (fun h1 => h ⟨h1, (ofFlow_iff fl q).1 c⟩)]
  · rw [if_neg c]

set_option maxRecDepth 100000 in
set_option maxHeartbeats 3200000 in
theorem rbytes13 (a : Option Addr) (n cap : Nat) (l : List Pk) (fl t v : Int) (hv : bytW t (sel fl l) = v) (w : World) (h : PkR w a n cap l) :
    Calls Try.prog 89 #[.slice a n cap, .int .i64 fl, .int .i64 t] w fun e w' => e = .returned (.int .i64 v) ∧ w' = w := by
  have H := Lib.hid h
  have HV := Lib.hid hv
  have hsm := h.sm
  clear h hv
  go_enter Try.func89, Try.ntmps89
  go_wp2_with fail
  go_loopw [8, 7] (fun s8 s7 wx => ∃ (k : Nat) (x : Int), s8 = .int .i64 k ∧ k ≤ n ∧ s7 = .int .i64 x ∧ Hid (bytW t (sel fl (l.take k)) = x) ∧ wx = w) (fun s8 _ _ => n - (intOf s8).toNat)
  case atStart => exact ⟨0, 0, by go_num, Nat.zero_le _, rfl, rfl, rfl⟩
  case round =>
    obtain ⟨k, x, rfl, hk, rfl, HX, hwr⟩ := hrel
    subst hwr
    by_cases hlt : k < n
    · have hlI : (k : Int) < (n : Int) := by omega
      obtain ⟨B, off, q, ha, hcs, hq, hbd⟩ := H.out.at hlt
      obtain ⟨c0, c1, c2⟩ := hcs k q hq
      have HQ := Lib.hid hq
      clear hcs hq hbd
      subst ha
      by_cases e1 : q.t < t
      · by_cases e2 : -1 ≤ fl
        · by_cases e3 : fl = -1
          · subst e3
            have HN := Lib.hid (show bytW t (sel (-1) (l.take (k + 1))) = wrap64 (x + q.s) from by rw [← IntWalk.i64_left, ← HX.out]; exact (bk_yes HQ.out e1 e2 (.inl rfl)).symm)
            go_wp2_with fail
            go_roundw
            case rel => exact ⟨k + 1, _, by go_num, by omega, rfl, HN, by first | rfl | trivial⟩
            case measure => first | (simp [intOf]; done) | (simp [intOf]; omega)
          · by_cases e4 : q.f = fl
            · have HN := Lib.hid (show bytW t (sel fl (l.take (k + 1))) = wrap64 (x + q.s) from by rw [← IntWalk.i64_left, ← HX.out]; exact (bk_yes HQ.out e1 e2 (.inr e4)).symm)
              go_wp2_with fail
              go_roundw
              case rel => exact ⟨k + 1, _, by go_num, by omega, rfl, HN, by first | rfl | trivial⟩
              case measure => first | (simp [intOf]; done) | (simp [intOf]; omega)
            · have HN := Lib.hid (show bytW t (sel fl (l.take (k + 1))) = x from by rw [← HX.out]; exact (bk_no HQ.out (fun c => by omega)).symm)
              have hb4 : (q.f == fl) = false := by simp [e4]
              go_wp2_with fail
              go_roundw
              case rel => exact ⟨k + 1, x, by go_num, by omega, rfl, HN, by first | rfl | trivial⟩
              case measure => first | (simp [intOf]; done) | (simp [intOf]; omega)
        · have HN := Lib.hid (show bytW t (sel fl (l.take (k + 1))) = x from by rw [← HX.out]; exact (bk_no HQ.out (fun c => e2 c.2.1)).symm)
          go_wp2_with fail
          go_roundw
          case rel => exact ⟨k + 1, x, by go_num, by omega, rfl, HN, by first | rfl | trivial⟩
          case measure => first | (simp [intOf]; done) | (simp [intOf]; omega)
      · have HN := Lib.hid (show bytW t (sel fl (l.take (k + 1))) = x from by rw [← HX.out]; exact (bk_no HQ.out (fun c => e1 c.1)).symm)
        go_wp2_with fail
        go_roundw
        case rel => exact ⟨k + 1, x, by go_num, by omega, rfl, HN, by first | rfl | trivial⟩
        case measure => first | (simp [intOf]; done) | (simp [intOf]; omega)
    · obtain rfl : k = n := by omega
      have hlI : ¬ (k : Int) < (k : Int) := by omega
      go_wp2_with fail
      go_ret
      refine ⟨?_, rfl⟩
      rw [← HV.out, ← HX.out, ← H.out.len, List.take_length]
      rfl

end Go.Proofs.Ytkienpbmoilheaa

namespace Go.Proofs.Ytkienpbmoilheaa
open Go.RowKit
set_option linter.unusedSimpArgs false
set_option linter.unusedVariables false

/-- A list of its own is handed back. -/
def GivesOwn (l : List Pk) (w : World) (e : Ending) (w' : World) : Prop :=
  ∃ a n cap, e = .returned (.slice a n cap) ∧ Below w.heap.size w w' ∧ PkR w' a n cap l ∧ ∀ x, a = some x → w.heap.size ≤ x.block
end Go.Proofs.Ytkienpbmoilheaa
