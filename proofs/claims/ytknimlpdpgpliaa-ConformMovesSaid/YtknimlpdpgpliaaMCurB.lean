/- Contracts: slices.IsSorted at numbers, curve.Valid. By the verifier's side. -/
import Derived.Test.YtknimlpdpgpliaaMCurAGrow
import Derived.BigQuiet
import Derived.Deep.QuietTactic
namespace Go.Proofs.Ytknimlpdpgpliaa
open Go.RowKit
set_option linter.unusedSimpArgs false

theorem less_q (x y : Int) (b : Bool) (hb : decide (x < y) = b) (w : World) : Calls Try.prog 163 #[.int .i64 x, .int .i64 y] w fun e w' => e = .returned (.bool b) ∧ w' = w := by
  subst hb
  exact (less_any x y w).mono fun _ _ ⟨h1, h2⟩ => ⟨h1, h2.symm⟩

theorem hdr_add {w wr : World} (h : ∃ m, wr = w.drewN m) (n : Nat) : ∃ m, wr.drewN n = w.drewN m := by
  obtain ⟨m, rfl⟩ := h; exact ⟨m + n, World.drewN_drewN _ _ _⟩

set_option maxHeartbeats 800000 in
theorem isSorted_any (a : Option Addr) (n cap : Nat) (zs : List Int) (w : World) (h : RowZ w a n cap zs) :
    Calls Try.prog 140 #[.slice a n cap] w (Drew (.bool (sortedB zs)) w) := by
  have H := Lib.hid h
  have hn : n ≤ 140737488355328 := h.sm
  clear h
  generalize hs : sortedB zs = sb
  have HS := Lib.hid hs
  clear hs
  go_enter Try.func140, Try.ntmps140
  go_wp2
  go_loopw [3] (fun vi wr => ∃ i : Int, vi = .int .i64 i ∧ -1 ≤ i ∧ i < n ∧ Hid (∀ j : Nat, i ≤ j → j + 1 < n → zs.getD j 0 ≤ zs.getD (j + 1) 0) ∧ Hid (∃ m, wr = w.drewN m)) (fun vi _ => (intOf vi + 1).toNat)
  case atStart => exact ⟨(n : Int) - 1, rfl, by omega, by omega, fun j h1 h2 => by omega, 0, rfl⟩
  case round =>
    obtain ⟨i, rfl, h1, h2, hall, hdr⟩ := hrel
    have HW : Hid (RowZ wr a n cap zs) := Lib.hid (by obtain ⟨m, hm⟩ := hdr.out; rw [hm]; exact H.out.drewN m)
    by_cases hlt : 0 < i
    · obtain ⟨j, rfl⟩ : ∃ j : Nat, i = (j : Int) + 1 := ⟨(i - 1).toNat, by omega⟩
      obtain ⟨x, rfl, c1, c0⟩ := HW.out.cellS j (by omega)
      obtain ⟨y, hy⟩ : ∃ z, zs.getD (j + 1) 0 = z := ⟨_, rfl⟩
      obtain ⟨z, hz⟩ : ∃ z, zs.getD j 0 = z := ⟨_, rfl⟩
      rw [hy] at c1
      rw [hz] at c0
      have HY := Lib.hid hy
      have HZ := Lib.hid hz
      clear hy hz
      have hw1 : IntKind.i64.wrap (j : Int) = j := IntWalk.i64_in _ ⟨by omega, by omega⟩
      have hw2 : (0 : Int) ≤ (j : Int) := by omega
      have hw3 : (0 : Int) ≤ (j : Int) + 1 := by omega
      have hw4 : ((j : Int) + 1).toNat = j + 1 := by omega
      have hw5 : (j : Int) < (n : Int) := by omega
      cases hb : decide (y < z) with
      | true =>
        have HB := Lib.hid hb
        clear hb
        go_wp2_with fail
        go_quiet ((go_at_call 163; exact Calls.quiet_of_same (less_q _ _ true HB.out _)))
        go_wp2_with fail
        go_ret
        refine ⟨?_, hdr_add hdr.out nq⟩
        have hnot : ¬ sortedB zs = true := by
          rw [sortedB_iff]
          intro hh
          have h3 := hh j (by rw [H.out.len]; omega)
          have h4 := of_decide_eq_true HB.out
          rw [HY.out, HZ.out] at h3
          omega
        rw [← HS.out, Bool.eq_false_iff.2 hnot]; rfl
      | false =>
        have HB := Lib.hid hb
        clear hb
        go_wp2_with fail
        go_quiet ((go_at_call 163; exact Calls.quiet_of_same (less_q _ _ false HB.out _)))
        clear hw1 hw2 hw3 hw4 hw5
        go_wp2_with fail
        go_roundw
        case rel =>
          refine ⟨(j : Int), by go_num, by omega, by omega, fun q hq1 hq2 => ?_, hdr_add hdr.out nq⟩
          by_cases he : q = j
          · subst he
            have h4 := of_decide_eq_false HB.out
            rw [HY.out, HZ.out]
            omega
          · exact hall.out q (by omega) hq2
        case measure => simp [intOf]; omega
    · go_wp2_with fail
      go_ret
      refine ⟨?_, hdr.out⟩
      have hyes : sortedB zs = true := by
        rw [sortedB_iff]
        intro j hj
        rw [H.out.len] at hj
        exact hall.out j (by omega) hj
      rw [← HS.out, hyes]; rfl

end Go.Proofs.Ytknimlpdpgpliaa
