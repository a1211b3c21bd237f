/- Same of package trace and of the document, of lists of packets; the document's Ints. By the verifier's side. -/
import Derived.Test.YtkienpbmoilheaaETrA
import Derived.Laws.StructEq
namespace Go.Proofs.Ytkienpbmoilheaa
open Go.RowKit
set_option linter.unusedSimpArgs false
set_option linter.unusedVariables false

theorem RowZ.dr13 {w w' : World} {a : Option Addr} {n cap : Nat} {zs : List Int} (h : RowZ w a n cap zs) (hd : ∃ m, w' = w.drewN m) : RowZ w' a n cap zs := by
  obtain ⟨m, rfl⟩ := hd; exact ⟨h.len, h.le, h.sm, h.cm, h.cell, h.bd⟩
theorem hdr13_add {u w : World} (h : ∃ m, u = w.drewN m) (n : Nat) : Hid (∃ m, u.drewN n = w.drewN m) := by
  obtain ⟨m, rfl⟩ := h; exact ⟨m + n, World.drewN_drewN _ _ _⟩

set_option maxHeartbeats 1600000 in
theorem rints5_any (a : Option Addr) (n cap : Nat) (zs : List Int) (a2 : Option Addr) (n2 cap2 : Nat) (ys : List Int) (b : Bool) (hb : decide (zs = ys) = b) (w : World) (h : RowZ w a n cap zs) (h2 : RowZ w a2 n2 cap2 ys) :
    Calls Try.prog 72 #[.slice a n cap, .slice a2 n2 cap2] w (Drew (.bool b) w) := by
  have H := Lib.hid h
  have H2 := Lib.hid h2
  have HB := Lib.hid hb
  have hn := h.sm
  have hn2 := h2.sm
  have hl := h.len
  have hl2 := h2.len
  subst hl hl2
  clear h h2 hb
  by_cases e1 : zs.length = ys.length
  · have t1 : ((zs.length : Int) != (ys.length : Int)) = false := by simp [e1]
    have E1 := Lib.hid e1
    have hle : zs.length ≤ ys.length := by omega
    clear e1
    go_enter Try.func72, Try.ntmps72
    go_wp2_with fail
    go_loopw [5] (fun s5 wx => ∃ k : Nat, s5 = .int .i64 k ∧ k ≤ zs.length ∧ Hid (∀ i, i < k → zs.getD i 0 = ys.getD i 0) ∧ Hid (∃ m, wx = w.drewN m)) (fun s5 _ => zs.length - (intOf s5).toNat)
    case atStart => exact ⟨0, rfl, Nat.zero_le _, fun i hi => absurd hi (Nat.not_lt_zero _), 0, rfl⟩
    case round =>
      obtain ⟨k, rfl, hk, hall, hdr⟩ := hrel
      obtain ⟨w1, rfl⟩ : ∃ u : World, u = wr := ⟨_, rfl⟩
      by_cases hlt : k < zs.length
      · obtain ⟨x, rfl, hcx⟩ := (H.out.dr13 hdr.out).cell k hlt
        obtain ⟨y, rfl, hcy⟩ := (H2.out.dr13 hdr.out).cell k (by omega)
        obtain ⟨v1, hv1⟩ : ∃ v, zs.getD k 0 = v := ⟨_, rfl⟩
        obtain ⟨v2, hv2⟩ : ∃ v, ys.getD k 0 = v := ⟨_, rfl⟩
        rw [hv1] at hcx
        rw [hv2] at hcy
        have HV := Lib.hid (And.intro hv1 hv2)
        have hky : (k : Int) < (ys.length : Int) := by omega
        have hkz : (k : Int) < (zs.length : Int) := by omega
        have hk0 : (0 : Int) ≤ (k : Int) := by omega
        clear hv1 hv2
        by_cases hd : v1 = v2
        · have hd' : (v1 != v2) = false := by simpa using hd
          have HD := Lib.hid hd
          clear hd
          go_wp2_with fail
          go_quiet (fail)
          go_wp2_with fail
          go_roundw
          case rel =>
            refine ⟨k + 1, by go_num, by omega, fun i hi => ?_, hdr13_add hdr.out nq⟩
            by_cases he : i = k
            · subst he; rw [HV.out.1, HV.out.2]; exact HD.out
            · exact hall.out i (by omega)
          case measure => simp [intOf]; omega
        · have hd' : (v1 != v2) = true := by simpa using hd
          have HD := Lib.hid hd
          clear hd
          go_wp2_with fail
          go_quiet (fail)
          go_wp2_with fail
          go_ret
          refine ⟨?_, hdr13_add hdr.out nq⟩
          rw [← HB.out, decide_eq_false (show ¬ zs = ys from fun e => HD.out (by rw [← HV.out.1, ← HV.out.2, e]))]; rfl
      · obtain rfl : k = zs.length := by omega
        go_wp2_with fail
        go_ret
        refine ⟨?_, hdr.out⟩
        rw [← HB.out, decide_eq_true (list_ext_getD E1.out hall.out)]; rfl
  · have t1 : ((zs.length : Int) != (ys.length : Int)) = true := by simp; omega
    have e : b = false := by rw [← HB.out]; exact decide_eq_false (fun e => e1 (by rw [e]))
    subst e
    clear e1
    go_enter Try.func72, Try.ntmps72
    go_wp2_with fail
    go_ret
    exact ⟨rfl, 0, rfl⟩

end Go.Proofs.Ytkienpbmoilheaa
