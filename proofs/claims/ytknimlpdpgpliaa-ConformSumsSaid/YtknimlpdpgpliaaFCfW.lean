/- The chapter's example. By the verifier's side. -/
import Derived.Test.YtknimlpdpgpliaaFCfS
namespace Go.Proofs.Ytknimlpdpgpliaa
open Go.RowKit
set_option linter.unusedSimpArgs false
set_option linter.unusedVariables false

def exV14 : List Pk := [⟨0, 0, 6⟩, ⟨0, 0, 6⟩]
def exS14 : List Pk := [⟨0, 0, 6⟩, ⟨0, 1, 6⟩]
def exG14 : List Pk := [⟨0, 0, 6⟩, ⟨0, 1, 6⟩, ⟨0, 4, 6⟩, ⟨0, 7, 6⟩, ⟨0, 10, 6⟩]
theorem exV_vio : vioA exV14 0 [0, 10, 12] 1 2 = (0, 1, true) := by kernel_rfl
theorem exV_code : acode exV14 0 (okC [0, 10, 12] 1 2) = 0 := by kernel_rfl
theorem exV_valid : vcode exV14 = 0 := by kernel_rfl
theorem exV_ok : okC [0, 10, 12] 1 2 = true := by kernel_rfl
theorem exV_sh : shL (atC [0, 10, 12] 1 2) 0 [] exV14 = some exS14 := by kernel_rfl
theorem exV_keeps : keepsA exS14 0 [0, 10, 12] 1 2 = true := by kernel_rfl
theorem gW0 : gUp (atC [0, 10, 12] 1 2) 0 6 0 = [] := rfl
theorem gW1 : gUp (atC [0, 10, 12] 1 2) 0 6 1 = [⟨0, 0, 6⟩] := by
  show gIn (atC [0, 10, 12] 1 2) 0 ((0 : Nat) : Int) 6 (60 - (gUp (atC [0, 10, 12] 1 2) 0 6 0).length) (gUp (atC [0, 10, 12] 1 2) 0 6 0) = _
  rw [gW0]
  kernel_rfl
theorem gW2 : gUp (atC [0, 10, 12] 1 2) 0 6 2 = [⟨0, 1, 6⟩, ⟨0, 0, 6⟩] := by
  show gIn (atC [0, 10, 12] 1 2) 0 ((1 : Nat) : Int) 6 (60 - (gUp (atC [0, 10, 12] 1 2) 0 6 1).length) (gUp (atC [0, 10, 12] 1 2) 0 6 1) = _
  rw [gW1]
  kernel_rfl
theorem gW3 : gUp (atC [0, 10, 12] 1 2) 0 6 3 = [⟨0, 1, 6⟩, ⟨0, 0, 6⟩] := by
  show gIn (atC [0, 10, 12] 1 2) 0 ((2 : Nat) : Int) 6 (60 - (gUp (atC [0, 10, 12] 1 2) 0 6 2).length) (gUp (atC [0, 10, 12] 1 2) 0 6 2) = _
  rw [gW2]
  kernel_rfl
theorem gW4 : gUp (atC [0, 10, 12] 1 2) 0 6 4 = [⟨0, 1, 6⟩, ⟨0, 0, 6⟩] := by
  show gIn (atC [0, 10, 12] 1 2) 0 ((3 : Nat) : Int) 6 (60 - (gUp (atC [0, 10, 12] 1 2) 0 6 3).length) (gUp (atC [0, 10, 12] 1 2) 0 6 3) = _
  rw [gW3]
  kernel_rfl
theorem gW5 : gUp (atC [0, 10, 12] 1 2) 0 6 5 = [⟨0, 4, 6⟩, ⟨0, 1, 6⟩, ⟨0, 0, 6⟩] := by
  show gIn (atC [0, 10, 12] 1 2) 0 ((4 : Nat) : Int) 6 (60 - (gUp (atC [0, 10, 12] 1 2) 0 6 4).length) (gUp (atC [0, 10, 12] 1 2) 0 6 4) = _
  rw [gW4]
  kernel_rfl
theorem gW6 : gUp (atC [0, 10, 12] 1 2) 0 6 6 = [⟨0, 4, 6⟩, ⟨0, 1, 6⟩, ⟨0, 0, 6⟩] := by
  show gIn (atC [0, 10, 12] 1 2) 0 ((5 : Nat) : Int) 6 (60 - (gUp (atC [0, 10, 12] 1 2) 0 6 5).length) (gUp (atC [0, 10, 12] 1 2) 0 6 5) = _
  rw [gW5]
  kernel_rfl
theorem gW7 : gUp (atC [0, 10, 12] 1 2) 0 6 7 = [⟨0, 4, 6⟩, ⟨0, 1, 6⟩, ⟨0, 0, 6⟩] := by
  show gIn (atC [0, 10, 12] 1 2) 0 ((6 : Nat) : Int) 6 (60 - (gUp (atC [0, 10, 12] 1 2) 0 6 6).length) (gUp (atC [0, 10, 12] 1 2) 0 6 6) = _
  rw [gW6]
  kernel_rfl
theorem gW8 : gUp (atC [0, 10, 12] 1 2) 0 6 8 = [⟨0, 7, 6⟩, ⟨0, 4, 6⟩, ⟨0, 1, 6⟩, ⟨0, 0, 6⟩] := by
  show gIn (atC [0, 10, 12] 1 2) 0 ((7 : Nat) : Int) 6 (60 - (gUp (atC [0, 10, 12] 1 2) 0 6 7).length) (gUp (atC [0, 10, 12] 1 2) 0 6 7) = _
  rw [gW7]
  kernel_rfl
theorem gW9 : gUp (atC [0, 10, 12] 1 2) 0 6 9 = [⟨0, 7, 6⟩, ⟨0, 4, 6⟩, ⟨0, 1, 6⟩, ⟨0, 0, 6⟩] := by
  show gIn (atC [0, 10, 12] 1 2) 0 ((8 : Nat) : Int) 6 (60 - (gUp (atC [0, 10, 12] 1 2) 0 6 8).length) (gUp (atC [0, 10, 12] 1 2) 0 6 8) = _
  rw [gW8]
  kernel_rfl
theorem gW10 : gUp (atC [0, 10, 12] 1 2) 0 6 10 = [⟨0, 7, 6⟩, ⟨0, 4, 6⟩, ⟨0, 1, 6⟩, ⟨0, 0, 6⟩] := by
  show gIn (atC [0, 10, 12] 1 2) 0 ((9 : Nat) : Int) 6 (60 - (gUp (atC [0, 10, 12] 1 2) 0 6 9).length) (gUp (atC [0, 10, 12] 1 2) 0 6 9) = _
  rw [gW9]
  kernel_rfl
theorem gW11 : gUp (atC [0, 10, 12] 1 2) 0 6 11 = [⟨0, 10, 6⟩, ⟨0, 7, 6⟩, ⟨0, 4, 6⟩, ⟨0, 1, 6⟩, ⟨0, 0, 6⟩] := by
  show gIn (atC [0, 10, 12] 1 2) 0 ((10 : Nat) : Int) 6 (60 - (gUp (atC [0, 10, 12] 1 2) 0 6 10).length) (gUp (atC [0, 10, 12] 1 2) 0 6 10) = _
  rw [gW10]
  kernel_rfl
theorem exV_greedy : (gUp (atC [0, 10, 12] 1 2) 0 6 (10 + 1)).reverse = exG14 := by
  show (gUp (atC [0, 10, 12] 1 2) 0 6 11).reverse = _
  rw [gW11]; rfl
theorem exV_new (w : World) (t : TypeId) : PkR (w.alloc (.cells #[.int .i64 0, .int .i64 0, .int .i64 6, .int .i64 0, .int .i64 0, .int .i64 6] t)) (some ⟨w.heap.size, 0, none⟩) 2 2 exV14 :=
  pkR_new (l := exV14) (by decide) (fun q hq => by
    unfold exV14 at hq
    simp only [List.mem_cons, List.not_mem_nil, or_false] at hq
    rcases hq with rfl | rfl <;> exact ⟨⟨by decide, by decide⟩, ⟨by decide, by decide⟩, ⟨by decide, by decide⟩⟩) (fun i q hq => by
    rcases i with _ | _ | i
    · cases hq; exact ⟨rfl, rfl, rfl⟩
    · cases hq; exact ⟨rfl, rfl, rfl⟩
    · cases hq)
theorem rowZ_three {w : World} {x0 x1 x2 : Int} {t : TypeId} (h0 : In64 x0) (h1 : In64 x1) (h2 : In64 x2) : RowZ (w.alloc (.cells #[.int .i64 x0, .int .i64 x1, .int .i64 x2] t)) (some ⟨w.heap.size, 0, none⟩) 3 3 [x0, x1, x2] :=
  ⟨rfl, Nat.le_refl _, by omega, by omega, fun i hi => ⟨_, rfl, by
    have ea : ((⟨w.heap.size, 0, none⟩ : Addr).add i) = ⟨w.heap.size, i, none⟩ := by unfold Addr.add; split <;> simp_all
    rw [ea]
    have : i = 0 ∨ i = 1 ∨ i = 2 := by omega
    rcases this with rfl | rfl | rfl <;> exact cell_new13 rfl⟩, fun i hi => by
    have : i = 0 ∨ i = 1 ∨ i = 2 := by omega
    rcases this with rfl | rfl | rfl
    · exact h0
    · exact h1
    · exact h2⟩

set_option maxRecDepth 100000 in
set_option maxHeartbeats 3200000 in
theorem awake14 (w : World) : Calls Try.prog 55 #[] w (Says (.bool true) w) := by
  have good : Good [0, 10, 12] 1 2 := (okC_iff [0, 10, 12] 1 2).1 exV_ok
  have HG := Lib.hid good
  clear good
  have i1 : In64 (((1 : Nat) : Int)) := ⟨by decide, by decide⟩
  have i2 : In64 (2 : Int) := ⟨by decide, by decide⟩
  have HI := Lib.hid (And.intro i1 i2)
  clear i1 i2
  go_enter Try.func55, Try.ntmps55
  go_upto_region 2 with fail
  obtain ⟨W2, hW2⟩ : ∃ W2, (w.alloc (.cells #[.int .i64 0, .int .i64 10, .int .i64 12] 3)).alloc (.cells #[.slice (some ⟨w.heap.size, 0, none⟩) 3 3, .int .i64 1, .int .i64 2] 26) = W2 := ⟨_, rfl⟩
  have hb2 : Below w.heap.size w W2 := by rw [← hW2]; exact ((Below.refl _ _).alloc (Nat.le_refl _) _).alloc (by simp) _
  have hz2 : RowZ W2 (some ⟨w.heap.size, 0, none⟩) 3 3 [0, 10, 12] := by rw [← hW2]; exact (rowZ_three ⟨by decide, by decide⟩ ⟨by decide, by decide⟩ ⟨by decide, by decide⟩).under ((Below.refl _ _).alloc (Nat.le_refl _) _)
  have hc2 : ∀ V, Below W2.heap.size W2 V → V.cell? ⟨w.heap.size + 1, 0, none⟩ = some (.slice (some ⟨w.heap.size, 0, none⟩) 3 3) ∧ V.cell? ⟨w.heap.size + 1, 1, none⟩ = some (.int .i64 1) ∧ V.cell? ⟨w.heap.size + 1, 2, none⟩ = some (.int .i64 2) := fun V hV => by
    have e : (w.alloc (.cells #[.int .i64 0, .int .i64 10, .int .i64 12] 3)).heap.size = w.heap.size + 1 := by simp
    have l : w.heap.size + 1 < W2.heap.size := by rw [← hW2]; simp
    refine ⟨(hV.cell l).trans ?_, (hV.cell l).trans ?_, (hV.cell l).trans ?_⟩ <;> rw [← hW2, ← e] <;> exact cell_new13 rfl
  rw [hW2]
  have HC2 := Lib.hid hc2
  have HZ2 := Lib.hid hz2
  have HB2 := Lib.hid hb2
  clear hc2 hz2 hb2 hW2
  obtain ⟨x0, x1, x2⟩ := HC2.out W2 (Below.refl _ _)
  obtain ⟨y0, y1, y2⟩ := HC2.out (W2.alloc (.cells #[.int .i64 0, .int .i64 0, .int .i64 6, .int .i64 0, .int .i64 0, .int .i64 6] 76)) ((Below.refl _ _).alloc (Nat.le_refl _) _)
  have hv : Calls Try.prog 58 #[.slice (some ⟨W2.heap.size, 0, none⟩) 2 2, .int .i64 0, curV (some ⟨w.heap.size, 0, none⟩) 3 3 1 2] (W2.alloc (.cells #[.int .i64 0, .int .i64 0, .int .i64 6, .int .i64 0, .int .i64 0, .int .i64 6] 76)) fun e w' => e = .returned (.tuple #[.int .i64 0, .int .i64 1, .bool true, .int .i64 0]) ∧ Hid (Below W2.heap.size W2 w') := by
    refine (violation14 _ 2 2 exV14 0 _ 3 3 [0, 10, 12] 1 2 HI.out.1 HI.out.2 _ exV_vio 0 exV_code _ (exV_new W2 _) (HZ2.out.under ((Below.refl _ _).alloc (Nat.le_refl _) _))).mono ?_
    rintro e w3 ⟨rfl, hb3⟩
    exact ⟨rfl, Lib.hid (((Below.refl _ _).alloc (Nat.le_refl _) _).trans (hb3.mono (by simp)))⟩
  have HV := Lib.hid hv
  clear hv
  go_wp2_with fail
  refine HV.out.mono ?_
  rintro e w3 ⟨rfl, hb3⟩
  obtain ⟨z0, z1, z2⟩ := HC2.out w3 hb3.out
  clear x0 x1 x2 y0 y1 y2
  have hs : Calls Try.prog 64 #[.slice (some ⟨w3.heap.size, 0, none⟩) 2 2, .int .i64 0, curV (some ⟨w.heap.size, 0, none⟩) 3 3 1 2] (w3.alloc (.cells #[.int .i64 0, .int .i64 0, .int .i64 6, .int .i64 0, .int .i64 0, .int .i64 6] 76)) fun e w' => ∃ a cap, e = .returned (.tuple #[.slice a 2 cap, .int .i64 0]) ∧ Hid (Below W2.heap.size W2 w' ∧ PkR w' a 2 cap exS14) := by
    refine (shape14 _ 2 2 exV14 0 exV_valid (by decide) _ 3 3 [0, 10, 12] 1 2 HI.out.1 HI.out.2 HG.out (some exS14) exV_sh _ (exV_new w3 _) ((HZ2.out.under hb3.out).under ((Below.refl _ _).alloc (Nat.le_refl _) _))).mono ?_
    rintro e w4 ⟨a, n, cap, rfl, hb4, hp4, _⟩
    have hp4 : PkR w4 a n cap exS14 := hp4
    obtain rfl : n = 2 := by rw [← hp4.len]; rfl
    exact ⟨a, cap, rfl, Lib.hid ⟨hb3.out.trans ((((Below.refl _ _).alloc (Nat.le_refl _) _).trans (hb4.mono (by simp))).mono hb3.out.size), hp4⟩⟩
  have HS := Lib.hid hs
  clear hs
  obtain ⟨y0, y1, y2⟩ := HC2.out (w3.alloc (.cells #[.int .i64 0, .int .i64 0, .int .i64 6, .int .i64 0, .int .i64 0, .int .i64 6] 76)) (hb3.out.trans (((Below.refl _ _).alloc (Nat.le_refl _) _).mono hb3.out.size))
  go_wp2_with fail
  refine HS.out.mono ?_
  rintro e w4 ⟨a4, cap4, rfl, hb4⟩
  clear z0 z1 z2 y0 y1 y2
  obtain ⟨z0, z1, z2⟩ := HC2.out w4 hb4.out.1
  have hg : Calls Try.prog 68 #[.int .i64 0, curV (some ⟨w.heap.size, 0, none⟩) 3 3 1 2, .int .i64 6, .int .i64 10] w4 fun e w' => ∃ a cap, e = .returned (.tuple #[.slice a 5 cap, .int .i64 0]) ∧ Hid (Below W2.heap.size W2 w' ∧ PkR w' a 5 cap exG14 ∧ PkR w' a4 2 cap4 exS14) := by
    refine (greedy14 0 6 10 (by decide) (by decide) (by decide) _ 3 3 [0, 10, 12] 1 2 HI.out.1 HI.out.2 HG.out _ (HZ2.out.under hb4.out.1)).mono ?_
    rw [exV_greedy]
    rintro e w5 ⟨a, n, cap, rfl, hb5, hp5, _⟩
    obtain rfl : n = 5 := by rw [← hp5.len]; rfl
    exact ⟨a, cap, rfl, Lib.hid ⟨hb4.out.1.trans (hb5.mono hb4.out.1.size), hp5, hb4.out.2.under hb5⟩⟩
  have HGR := Lib.hid hg
  clear hg
  go_wp2_with fail
  refine HGR.out.mono ?_
  rintro e w5 ⟨a5, cap5, rfl, hb5⟩
  clear z0 z1 z2
  obtain ⟨z0, z1, z2⟩ := HC2.out w5 hb5.out.1
  obtain ⟨B4, o4, q4, rfl, hc4, hq4, _⟩ := hb5.out.2.2.at (show 1 < 2 by decide)
  obtain ⟨_, d4, _⟩ := hc4 1 q4 hq4
  cases hq4
  obtain ⟨B5, o5, q5, rfl, hc5, hq5, _⟩ := hb5.out.2.1.at (show 2 < 5 by decide)
  obtain ⟨_, d5, _⟩ := hc5 2 q5 hq5
  cases hq5
  obtain ⟨_, d6, _⟩ := hc5 4 ⟨0, 10, 6⟩ rfl
  dsimp only at d4 d5 d6
  have HK := Lib.hid (keeps14 (some ⟨B4, o4, none⟩) 2 cap4 exS14 0 (some ⟨w.heap.size, 0, none⟩) 3 3 [0, 10, 12] 1 2 HI.out.1 HI.out.2 true exV_keeps w5 hb5.out.2.2 (HZ2.out.under hb5.out.1))
  clear hc4 hc5
  go_wp2_with fail
  refine HK.out.mono ?_
  rintro e w6 ⟨rfl, hb6⟩
  have HF := Lib.hid (HB2.out.trans ((hb5.out.1.trans (hb6.mono hb5.out.1.size)).mono HB2.out.size))
  clear hb6
  go_wp2_with fail
  go_ret
  exact ⟨rfl, HF.out⟩
end Go.Proofs.Ytknimlpdpgpliaa
