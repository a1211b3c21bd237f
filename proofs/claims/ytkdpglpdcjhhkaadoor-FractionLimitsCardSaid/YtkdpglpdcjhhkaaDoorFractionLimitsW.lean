/- The walk of FractionLimits. By the verifier's side. -/
import Derived.Test.YtkdpglpdcjhhkaaDoorAwake
namespace Go.Proofs.YtkdpglpdcjhhkaaDoor
open Go.RowKit
set_option linter.unusedSimpArgs false

set_option maxHeartbeats 3200000 in
theorem fractionLimits_walk (W : World) (h0 : Lib0 W) (a : Option Addr) (n cap : Nat) (hrow : RowAt W a n cap) :
    Calls Tryd.prog 7 #[.slice a n cap] W fun e w' => e = .returned (.bool true) ∧ Below W.heap.size W w' := by
  have H0 := Lib.hid h0
  have HR := Lib.hid hrow
  clear h0 hrow
  go_enter Tryd.func7, Tryd.ntmps7
  go_wp2_with fail
  refine (new_any a n cap _ HR.out).mono ?_
  rintro e w1 ⟨rfl, hb1, hz1, a1, n1, cap1, hs1⟩
  have HB1 := Lib.hid hb1
  have HS1 := Lib.hid hs1
  clear hb1 hz1 hs1
  go_wp2_with fail
  refine (n_any 1073741824 (by omega) (by omega) _ a1 n1 cap1 _ HS1.out).mono ?_
  rintro e w2 ⟨r1, hr1, rfl, hs2, he2⟩
  have HS2 := Lib.hid hs2
  have HB2 := Lib.hid (HB1.out.trans (he2.below (Nat.le_refl _)))
  clear hs2 he2
  go_wp2_with fail
  refine (n_any 3 (by omega) (by omega) _ a1 n1 cap1 _ HS2.out).mono ?_
  rintro e w3 ⟨r2, hr2, rfl, hs3, he3⟩
  have HS3 := Lib.hid hs3
  have HB3 := Lib.hid (HB2.out.trans (he3.below (Nat.le_refl _)))
  clear hs3 he3
  go_wp2_with fail
  refine (n_any 3 (by omega) (by omega) _ a1 n1 cap1 _ HS3.out).mono ?_
  rintro e w4 ⟨r3, hr3, rfl, hs4, he4⟩
  have HB4 := Lib.hid (HB3.out.trans (he4.below (Nat.le_refl _)))
  clear hs4 he4
  have m1 := mul_bd (1073741824 - r2) (1 + r1) (by omega) (by omega)
  have m2 := mul_bd (-(1073741823 - r3)) (1 + r1) (by omega) (by omega)
  go_wp2_with fail
  refine (new_all _ _ ⟨by omega, by omega⟩ ⟨by omega, by omega⟩ _).mono ?_
  rintro e w5 ⟨he, hb5⟩
  rw [newF_mulk _ _ (by omega) (by omega) (by omega)] at he
  subst he
  obtain ⟨hc5, hf5⟩ := bcell hb5
  have HB5 := Lib.hid (HB4.out.trans (hb5.mono HB4.out.size))
  have hz5 := hb5.size
  go_wp2_with fail
  refine (new_all _ _ ⟨by omega, by omega⟩ ⟨by omega, by omega⟩ _).mono ?_
  rintro e w6 ⟨he, hb6⟩
  rw [newF_inv _ _ (by omega) (by omega) (by omega)] at he
  subst he
  obtain ⟨hc6, hf6⟩ := bcell hb6
  have HB6 := Lib.hid ((HB5.out.alloc HB5.out.size _).trans (hb6.mono (by have := HB5.out.size; simp; omega)))
  have hz6 : w5.heap.size < w6.heap.size := by have := hb6.size; simp at this; omega
  go_wp2_with fail
  refine (new_all _ _ ⟨by omega, by omega⟩ ⟨by omega, by omega⟩ _).mono ?_
  rintro e w7 ⟨he, hb7⟩
  rw [newF_over1 _ (by omega)] at he
  subst he
  obtain ⟨hc7, hf7⟩ := bcell hb7
  have HB7 := Lib.hid ((HB6.out.alloc HB6.out.size _).trans (hb7.mono (by have := HB6.out.size; simp; omega)))
  have hz7 : w6.heap.size < w7.heap.size := by have := hb7.size; simp at this; omega
  go_wp2_with fail
  refine (new_all _ _ ⟨by omega, by omega⟩ ⟨by omega, by omega⟩ _).mono ?_
  rintro e w8 ⟨he, hb8⟩
  rw [newF_over2 _ (by omega)] at he
  subst he
  obtain ⟨hc8, hf8⟩ := bcell hb8
  have HB8 := Lib.hid ((HB7.out.alloc HB7.out.size _).trans (hb8.mono (by have := HB7.out.size; simp; omega)))
  have hz8 : w7.heap.size < w8.heap.size := by have := hb8.size; simp at this; omega
  obtain ⟨p1, p2, p3⟩ := lt3 (show w5.heap.size < w7.heap.size by omega)
  obtain ⟨p4, p5, p6⟩ := lt3 (show w5.heap.size < w8.heap.size by omega)
  obtain ⟨p7, p8, p9⟩ := lt3 (show w6.heap.size < w8.heap.size by omega)
  obtain ⟨p10, p11, p12⟩ := lt3 hz6
  obtain ⟨p13, p14, p15⟩ := lt3 hz7
  obtain ⟨p16, p17, p18⟩ := lt3 hz8
  go_wp2_with fail
  refine (awake_all _ (H0.out.below (HB8.out.alloc HB8.out.size _))).mono ?_
  rintro e w9 ⟨rfl, hb9⟩
  go_wp2_with fail
  go_ret
  refine ⟨?_, (HB8.out.alloc HB8.out.size _).trans (hb9.mono (by have := HB8.out.size; simp; omega))⟩
  rfl

end Go.Proofs.YtkdpglpdcjhhkaaDoor
