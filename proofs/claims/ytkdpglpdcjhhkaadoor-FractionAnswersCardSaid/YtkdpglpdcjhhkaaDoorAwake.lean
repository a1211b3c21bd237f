/- awake: the examples of the chapter: it returns true. By the verifier's side. -/
import Derived.Test.YtkdpglpdcjhhkaaDoorText
namespace Go.Proofs.YtkdpglpdcjhhkaaDoor
open Go.RowKit
set_option linter.unusedSimpArgs false

theorem new64 : newF 6 (-4) = (-3, 2, 0) := by decide
theorem ok32 : okF (-3) 2 = true := by decide
theorem format32 : formatL (-3) 2 = [45, 51, 47, 50] := by
  unfold formatL
  rw [if_pos ok32, if_neg (by decide)]
  unfold Lib.itoa
  rw [if_pos (by decide), if_neg (by decide), digit _ (by decide), digit _ (by decide)]
  decide
theorem parse42 : parseL [52, 47, 50] = (0, 0, 4) := by
  have h1 : Lib.atoiAll (Lib.cut [52, 47, 50] [47]).1 = .ok 4 := by decide +kernel
  have h2 : Lib.atoiAll (Lib.cut [52, 47, 50] [47]).2.1 = .ok 2 := by decide +kernel
  rw [parseL_two h1 (by decide +kernel) h2]
  unfold checkL formatL
  rw [if_neg (show ¬ okF 4 2 = true by decide)]
  rfl
theorem floor32 : floorF (-3) 2 = -2 := by decide
theorem ceil32 : ceilF (-3) 2 = -1 := by decide

set_option maxHeartbeats 800000 in
theorem awake_all (w : World) (h0 : Lib0 w) : Calls Tryd.prog 9 #[] w (Says (.bool true) w) := by
  have H0 := Lib.hid h0
  clear h0
  go_enter Tryd.func9, Tryd.ntmps9
  go_wp2_with fail
  refine (new_all 6 (-4) (by decide) (by decide) _).mono ?_
  rintro e w1 ⟨he, hb⟩
  rw [new64] at he
  subst he
  have HB := Lib.hid hb
  go_wp2_with fail
  have HB1 : Hid (Below w.heap.size w (w1.alloc (.cells #[.int .i64 (-3), .int .i64 2] 23))) := Lib.hid (hb.alloc hb.size _)
  refine (parse_all ⟨#[52, 47, 50]⟩ (by decide) _ (H0.out.below HB1.out)).mono ?_
  rintro e w2 ⟨he, hb2⟩
  rw [show (⟨#[52, 47, 50]⟩ : ByteArray).data.toList = [52, 47, 50] from rfl, parse42] at he
  subst he
  obtain ⟨hc2, hf2⟩ := bcell hb2
  have hz2 : w1.heap.size < w2.heap.size := by have := hb2.size; simp at this; omega
  have HB2 : Hid (Below w.heap.size w w2) := Lib.hid (HB1.out.trans (hb2.mono (by have := HB.out.size; simp; omega)))
  go_wp2_with fail
  have hzw := HB.out.size
  have HB3 : Hid (Below w.heap.size w (w2.alloc (.cells #[.int .i64 0, .int .i64 0] 23))) := Lib.hid (HB2.out.alloc (by omega) _)
  refine (format_all (-3) 2 _ (H0.out.below HB3.out)).mono ?_
  rintro e w3 ⟨he, hb3⟩
  rw [format32] at he
  subst he
  obtain ⟨hc3, hf3⟩ := bcell hb3
  have hz3 : w2.heap.size < w3.heap.size := by have := hb3.size; simp at this; omega
  have hz31 : w1.heap.size < w2.heap.size + 1 := by omega
  have hz32 : ¬ w1.heap.size = w2.heap.size := by omega
  have hz33 : w1.heap.size < w3.heap.size := by omega
  have HB4 : Hid (Below w.heap.size w w3) := Lib.hid (HB3.out.trans (hb3.mono (by simp; omega)))
  go_wp2_with fail
  refine (floor_all (-3) 2 _).mono ?_
  rintro e w4 ⟨he, hb4⟩
  rw [floor32] at he
  subst he
  obtain ⟨hc4, hf4⟩ := bcell hb4
  have HB5 : Hid (Below w.heap.size w w4) := Lib.hid (HB4.out.trans (hb4.mono (by omega)))
  have hz4 : w1.heap.size < w4.heap.size := by have := hb4.size; omega
  go_wp2_with fail
  refine (ceil_all (-3) 2 (by decide) _).mono ?_
  rintro e w5 ⟨he, hb5⟩
  rw [ceil32] at he
  subst he
  go_wp2_with fail
  go_ret
  refine ⟨?_, HB5.out.trans (hb5.mono (by omega))⟩
  rfl

end Go.Proofs.YtkdpglpdcjhhkaaDoor
