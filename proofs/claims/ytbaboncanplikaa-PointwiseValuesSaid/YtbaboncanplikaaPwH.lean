/- The chapter's examples (awake). By the verifier's side. -/
import Derived.Test.YtbaboncanplikaaPwG
namespace Go.Proofs.Ytbaboncanplikaa
open Go.RowKit
set_option linter.unusedSimpArgs false

set_option maxRecDepth 100000 in
set_option maxHeartbeats 3200000 in
theorem awake5 (w : World) : Calls Try.prog 12 #[] w (Says (.bool true) w) := by
  obtain ⟨l1, l2, l3⟩ := lits5 w
  have Xf := Lib.hid l1
  have Xg := Lib.hid l2
  have HB := Lib.hid l3
  clear l1 l2 l3
  go_enter Try.func12, Try.ntmps12
  go_wp2_with fail
  generalize ((((w.alloc (.cells #[.int .i64 0] 3)).alloc (.cells #[.int .i64 0, .int .i64 10, .int .i64 12] 3)).alloc (.cells #[.slice (some ⟨w.heap.size, 0, none⟩) 1 1, .int .i64 1, .int .i64 3] 24)).alloc (.cells #[.slice (some ⟨w.heap.size + 1, 0, none⟩) 3 3, .int .i64 1, .int .i64 2] 24)) = w0 at Xf Xg HB ⊢
  refine ((min_ok (some ⟨w.heap.size, 0, none⟩) 1 1 [0] 1 3 e0_good (some ⟨w.heap.size + 1, 0, none⟩) 3 3 [0, 10, 12] 1 2 e1_good 1 (lcm_one e0_good e1_good) (by omega) _ Xf.out.row Xg.out.row).mono fun _ _ h => h.ok ex_min_can).mono ?_
  rintro e v1 ⟨a1, n1, cap1, z1, p1, i1, rfl, hb, hr, hf, hx⟩
  obtain ⟨w1, hw⟩ : ∃ W, v1.alloc (.cells #[.slice a1 n1 cap1, .int .i64 p1, .int .i64 i1] 24) = W := ⟨_, rfl⟩
  have hz : Below w0.heap.size w0 w1 := by rw [← hw]; exact hb.trans ((below_box _).mono hb.size)
  have Xf_1 := Lib.hid (Xf.out.under hz)
  have Xg_1 := Lib.hid (Xg.out.under hz)
  have HB_1 := Lib.hid (HB.out.trans (hz.mono HB.out.size))
  have Xm_1 := Lib.hid (show Bx w1 v1.heap.size a1 n1 cap1 p1 i1 z1 by rw [← hw]; exact Bx.new hr)
  have HFm := Lib.hid hf
  have hw1 := hw
  clear hb hr hf hx hz hw
  obtain ⟨c0, c1, c2, c3, c4, c5⟩ := Xf_1.out.box
  go_wp2_with fail
  try rw [hw1]
  clear hw1
  clear c0 c1 c2 c3 c4 c5
  refine ((lower_ok (some ⟨w.heap.size, 0, none⟩) 1 1 [0] 1 3 e0_good 4 (by omega) (by omega) _ Xf_1.out.row).mono fun _ _ h => h.ok ex_low.can).mono ?_
  rintro e v2 ⟨a2, n2, cap2, z2, p2, i2, rfl, hb, hr, hf, hx⟩
  obtain ⟨w2, hw⟩ : ∃ W, v2.alloc (.cells #[.slice a2 n2 cap2, .int .i64 p2, .int .i64 i2] 24) = W := ⟨_, rfl⟩
  have hz : Below w1.heap.size w1 w2 := by rw [← hw]; exact hb.trans ((below_box _).mono hb.size)
  have Xf_2 := Lib.hid (Xf_1.out.under hz)
  have Xg_2 := Lib.hid (Xg_1.out.under hz)
  have Xm_2 := Lib.hid (Xm_1.out.under hz)
  have HB_2 := Lib.hid (HB_1.out.trans (hz.mono HB_1.out.size))
  have Xx_2 := Lib.hid (show Bx w2 v2.heap.size a2 n2 cap2 p2 i2 z2 by rw [← hw]; exact Bx.new hr)
  have HFx := Lib.hid hf
  have hw2 := hw
  clear hb hr hf hx hz hw
  obtain ⟨c0, c1, c2, c3, c4, c5⟩ := Xm_2.out.box
  go_wp2_with fail
  try rw [hw2]
  clear hw2
  clear c0 c1 c2 c3 c4 c5
  with_reducible refine (value_at a1 n1 cap1 z1 p1 i1 HFm.out.good 8 8 rfl (by omega) 24 (HFm.out.at ex_min8) _ Xm_2.out.row).mono ?_
  rintro e w3 ⟨rfl, hb⟩
  have Xf_3 := Lib.hid (Xf_2.out.under hb)
  have Xg_3 := Lib.hid (Xg_2.out.under hb)
  have Xm_3 := Lib.hid (Xm_2.out.under hb)
  have Xx_3 := Lib.hid (Xx_2.out.under hb)
  have HB_3 := Lib.hid (HB_2.out.trans (hb.mono HB_2.out.size))
  clear hb
  obtain ⟨c0, c1, c2, c3, c4, c5⟩ := Xm_3.out.box
  go_wp2_with fail
  clear c0 c1 c2 c3 c4 c5
  with_reducible refine (value_at a1 n1 cap1 z1 p1 i1 HFm.out.good 20 20 rfl (by omega) 48 (HFm.out.at ex_min20) _ Xm_3.out.row).mono ?_
  rintro e w4 ⟨rfl, hb⟩
  have Xf_4 := Lib.hid (Xf_3.out.under hb)
  have Xg_4 := Lib.hid (Xg_3.out.under hb)
  have Xm_4 := Lib.hid (Xm_3.out.under hb)
  have Xx_4 := Lib.hid (Xx_3.out.under hb)
  have HB_4 := Lib.hid (HB_3.out.trans (hb.mono HB_3.out.size))
  clear hb
  obtain ⟨c0, c1, c2, c3, c4, c5⟩ := Xx_4.out.box
  have hr5 := rowZ_lit w4 [0, 0, 2] 3 (by decide) (by decide)
  have hb5 : Below w4.heap.size w4 (w4.alloc (.cells #[.int .i64 0, .int .i64 0, .int .i64 2] 3)) := below_box _
  have HR5 := Lib.hid (And.intro (show RowZ (w4.alloc (.cells #[.int .i64 0, .int .i64 0, .int .i64 2] 3)) (some ⟨w4.heap.size, 0, none⟩) 3 3 [0, 0, 2] from hr5) hb5)
  clear hr5 hb5
  go_wp2_with fail
  clear c0 c1 c2 c3 c4 c5
  refine (same_at HFx.out ex_low _ (Xx_4.out.row.under HR5.out.2) HR5.out.1).mono ?_
  rintro e w5 ⟨rfl, hb⟩
  have HB5 := Lib.hid (HB_4.out.trans ((HR5.out.2.trans (hb.mono HR5.out.2.size)).mono HB_4.out.size))
  clear hb
  go_wp2_with fail
  go_ret
  exact ⟨rfl, HB5.out⟩

end Go.Proofs.Ytbaboncanplikaa
