/- Mixed of package keep: numbers within their range. By the verifier's side. -/
import Derived.Test.YtenfhjmaljleoaaKTrU
namespace Go.Proofs.Ytenfhjmaljleoaa
open Go.RowKit
set_option linter.unusedSimpArgs false
set_option linter.unusedVariables false

/-- Numbers below N. -/
def Lows (N : Nat) (F : Nat → Int) : Prop := ∀ k, k < N → 0 ≤ F k ∧ F k < (N : Int)
theorem Lows.set {N : Nat} {F : Nat → Int} (h : Lows N F) {j : Nat} {v : Int} (hv : 0 ≤ v ∧ v < (N : Int)) : Lows N (fun k => if k = j then v else F k) := fun k hk => by
  show 0 ≤ (if k = j then v else F k) ∧ (if k = j then v else F k) < _
  by_cases e : k = j
  · rw [if_pos e]; exact hv
  · rw [if_neg e]; exact h k hk
/-- A list of numbers below N is handed back. -/
def GivesLows (N : Nat) (b : Nat) (a : Option Addr) (n cap : Nat) (w : World) (e : Ending) (w' : World) : Prop :=
  ∃ M F, e = .returned (.slice (some ⟨M, 0, none⟩) N N) ∧ w.heap.size ≤ M ∧ SumB w' M N F ∧ Lows N F ∧ Hld13 w b a n cap w'

set_option maxRecDepth 100000 in
set_option maxHeartbeats 3200000 in
theorem mixed13 (N : Nat) (hN : N ≤ 1000) (b : Nat) (a : Option Addr) (n cap : Nat) (w : World) (h : SrcAt w b a n cap) :
    Calls Try.prog 38 #[.pointer (some ⟨b, 0, none⟩), .int .i64 N] w (GivesLows N b a n cap w) := by
  have H := Lib.hid h
  have hbl := h.lt
  have hmk := make13 N (by omega)
  have HW0 := Lib.hid ((Hld13.start h).alloc (.cells (madeCells #[.int .i64 0] N) 3))
  have HS0 := Lib.hid (SumB.made w N)
  clear h
  go_enter Try.func38, Try.ntmps38
  go_wp2_with fail
  go_loopw [13] (fun vi wx => ∃ (k : Nat) (F : Nat → Int), vi = .int .i64 k ∧ k ≤ N ∧ Hid (SumB wx w.heap.size N F ∧ Lows N F) ∧ Hid (Hld13 w b a n cap wx)) (fun vi _ => N - (intOf vi).toNat)
  case atStart => exact ⟨0, _, by go_num, Nat.zero_le _, ⟨HS0.out, fun k hk => by omega⟩, HW0⟩
  case round =>
    obtain ⟨k, F, rfl, hk, HS, HW⟩ := hrel
    obtain ⟨wk, rfl⟩ : ∃ u : World, u = wr := ⟨_, rfl⟩
    by_cases hlt : k < N
    · have hlI : (k : Int) < (N : Int) := by omega
      have c0 := HS.out.1.cell hlt
      have hf := HS.out.1.frozen
      go_wp2_with fail
      go_roundw
      case rel => exact ⟨k + 1, _, by go_num, by omega, ⟨HS.out.1.set hlt (k : Int), HS.out.2.set ⟨by omega, by omega⟩⟩, HW.out.set hbl (p := ⟨w.heap.size, k, none⟩) (Nat.le_refl _) _⟩
      case measure => first | (simp [intOf]; done) | (simp [intOf]; omega)
    · obtain rfl : k = N := by omega
      have hlI : ¬ (k : Int) < (k : Int) := by omega
      have HZ := Lib.hid HS.out
      clear HS
      go_wp2_with fail
      go_loopw [7] (fun vi wx => ∃ (i : Int) (F : Nat → Int), vi = .int .i64 i ∧ i < (k : Int) ∧ -1 ≤ i ∧ Hid (SumB wx w.heap.size k F ∧ Lows k F) ∧ Hid (Hld13 w b a n cap wx)) (fun vi _ => (intOf vi).toNat)
      case atStart => exact ⟨(k : Int) - 1, F, rfl, by omega, by omega, HZ, HW⟩
      case round =>
        obtain ⟨i, G, rfl, hi1, hi2, HS, HV⟩ := hrel
        obtain ⟨wm, rfl⟩ : ∃ u : World, u = wr := ⟨_, rfl⟩
        by_cases hi0 : 0 < i
        · obtain ⟨m, rfl⟩ : ∃ m : Nat, i = (m : Int) := ⟨i.toNat, by omega⟩
          go_wp2_with fail
          refine (n_any ((m : Int) + 1) (by omega) (by omega) b a n cap _ (HV.out.at H.out)).mono ?_
          rintro e w2 ⟨r, hr, rfl, hs2, he2⟩
          obtain ⟨j, rfl⟩ := Int.eq_ofNat_of_zero_le hr.1
          have hj : j ≤ m := by omega
          have hmk' : m < k := by omega
          have hjk : j < k := by omega
          have HV2 := Lib.hid (HV.out.call hs2 he2.apart)
          have hS2 : SumB w2 w.heap.size k G := HS.out.1.of_block (he2.block _ (by have := hbl; omega))
          have c0 := hS2.cell hmk'
          have c1 := hS2.cell hjk
          have hf := hS2.frozen
          obtain ⟨x, hx⟩ : ∃ x, G m = x := ⟨_, rfl⟩
          obtain ⟨y, hy⟩ : ∃ y, G j = y := ⟨_, rfl⟩
          rw [hx] at c0
          rw [hy] at c1
          have hxb := HS.out.2 m hmk'
          have hyb := HS.out.2 j hjk
          rw [hx] at hxb
          rw [hy] at hyb
          have HS3 := Lib.hid (And.intro (hS2.set hmk' y) (And.intro (HS.out.2.set (j := m) hyb) (And.intro hxb hjk)))
          have i1 : (m : Int) < (k : Int) := by omega
          have i2 : (j : Int) < (k : Int) := by omega
          clear hs2 he2 hr hS2 hx hy hxb hyb hmk' hjk
          by_cases hjm : j = m
          · obtain rfl : m = j := hjm.symm
            have exy : x = y := by rw [c0] at c1; cases c1; rfl
            subst exy
            clear c1 i2 hj hjm
            go_wp2_with fail
            go_region
            all_goals go_wp2_with fail
            go_roundw
            case rel => exact ⟨(m : Int) - 1, _, rfl, by omega, by omega, ⟨(HS3.out.1.set HS3.out.2.2.2 x), HS3.out.2.1.set HS3.out.2.2.1⟩, ((HV2.out.set hbl (p := ⟨w.heap.size, m, none⟩) (Nat.le_refl _) _).set hbl (p := ⟨w.heap.size, m, none⟩) (Nat.le_refl _) _).drew⟩
            case measure => first | (simp [intOf]; done) | (simp [intOf]; omega)
          · have hjm2 : ¬ m = j := fun e => hjm e.symm
            go_wp2_with fail
            go_region
            all_goals go_wp2_with fail
            go_roundw
            case rel => exact ⟨(m : Int) - 1, _, rfl, by omega, by omega, ⟨(HS3.out.1.set HS3.out.2.2.2 x), HS3.out.2.1.set HS3.out.2.2.1⟩, ((HV2.out.set hbl (p := ⟨w.heap.size, m, none⟩) (Nat.le_refl _) _).set hbl (p := ⟨w.heap.size, j, none⟩) (Nat.le_refl _) _).drew⟩
            case measure => first | (simp [intOf]; done) | (simp [intOf]; omega)
        · go_wp2_with fail
          go_ret
          exact ⟨w.heap.size, G, rfl, Nat.le_refl _, HS.out.1, HS.out.2, HV.out⟩
end Go.Proofs.Ytenfhjmaljleoaa
