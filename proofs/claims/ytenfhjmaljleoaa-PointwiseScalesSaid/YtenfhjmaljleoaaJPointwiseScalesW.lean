/- The walk of PointwiseScales. By the verifier's side. -/
import Derived.Test.YtenfhjmaljleoaaJPwS
import Derived.Test.YtenfhjmaljleoaaJKeepC
namespace Go.Proofs.Ytenfhjmaljleoaa
open Go.RowKit
set_option linter.unusedSimpArgs false

set_option maxRecDepth 100000 in
set_option maxHeartbeats 6400000 in
theorem pointwiseScales_walk (W : World) (a : Option Addr) (n cap : Nat) (hrow : RowAt W a n cap) :
    Calls Try.prog 12 #[.slice a n cap] W fun e w' => e = .returned (.bool true) ∧ Below W.heap.size W w' := by
  have HR := Lib.hid hrow
  clear hrow
  go_enter Try.func12, Try.ntmps12
  go_wp2_with fail
  refine (new_any a n cap _ HR.out).mono ?_
  rintro e u1 ⟨rfl, hb1, hz1, ra, rn, rc, hs1⟩
  have HB1 := Lib.hid hb1
  have HS1 := Lib.hid hs1
  have Z1 := Lib.hid hz1
  clear hb1 hz1 hs1
  go_wp2_with fail
  refine (curve_any 5 (by omega) (by omega) _ ra rn rc _ HS1.out).mono ?_
  rintro e u2 ⟨af, nf, capf, zf, pf, jf, rfl, hs2, he2, hr2, ok2, hx2⟩
  have OF := Lib.hid ok2
  have HS2 := Lib.hid hs2
  have R2 := Lib.hid hr2
  have X2 := Lib.hid (show ∀ x, af = some x → ¬ x.block = W.heap.size from fun x hx => by have := hx2 x hx; have := Z1.out; omega)
  have HB2 := Lib.hid (HB1.out.trans (he2.below (Nat.le_refl _) HB1.out.size))
  clear hs2 he2 hr2 ok2 hx2
  go_wp2_with fail
  refine (curve_any 5 (by omega) (by omega) _ ra rn rc _ HS2.out).mono ?_
  rintro e u3 ⟨ag, ng, capg, zg, pg, jg, rfl, hs3, he3, hr3, ok3, hx3⟩
  have OG := Lib.hid ok3
  have HS3 := Lib.hid hs3
  have R3 := Lib.hid hr3
  have R23 := Lib.hid (R2.out.apart he3 X2.out)
  have X3 := Lib.hid (show ∀ x, ag = some x → ¬ x.block = W.heap.size from fun x hx => by have := hx3 x hx; have := Z1.out; have := he3.size; have := HB2.out.size; have h9 : W.heap.size < u2.heap.size := lt_of_cell (src_cell HS2.out); omega)
  have HB3 := Lib.hid (HB2.out.trans (he3.below (Nat.le_refl _) HB2.out.size))
  clear hs3 he3 hr3 ok3 hx3
  go_wp2_with fail
  refine (n_any 9 (by omega) (by omega) _ ra rn rc _ HS3.out).mono ?_
  rintro e u4 ⟨r1, ⟨r10, r11⟩, rfl, hs4, he4⟩
  have R4f := R23.out.apart he4.apart X2.out
  have R4g := R3.out.apart he4.apart X3.out
  obtain ⟨w0, hw⟩ : ∃ W, (u4.alloc (.cells #[.slice af nf capf, .int .i64 pf, .int .i64 jf] 51)).alloc (.cells #[.slice ag ng capg, .int .i64 pg, .int .i64 jg] 51) = W := ⟨_, rfl⟩
  have hz : Below u4.heap.size u4 w0 := by rw [← hw]; exact (below_box _).alloc (by simp) _
  have Xf := Lib.hid (show Bx w0 u4.heap.size af nf capf pf jf zf by rw [← hw]; exact (Bx.new R4f).under (below_box _))
  have Xg := Lib.hid (show Bx w0 (u4.heap.size + 1) ag ng capg pg jg zg by
    rw [← hw]
    have := Bx.new (p := pg) (inc := jg) (R4g.alloc (.cells #[.slice af nf capf, .int .i64 pf, .int .i64 jf] 51))
    rwa [show (u4.alloc (.cells #[.slice af nf capf, .int .i64 pf, .int .i64 jf] 51)).heap.size = u4.heap.size + 1 by simp] at this)
  have hb4 := HB3.out.trans (he4.below (Nat.le_refl _))
  have HB4 := Lib.hid (hb4.trans (hz.mono hb4.size))
  obtain ⟨kk, hkk⟩ : ∃ kk, (1 : Int) + r1 = kk := ⟨_, rfl⟩
  have hk1 : 1 ≤ kk := by omega
  have hk9 : kk ≤ 9 := by omega
  have hw0 := hw
  clear hs4 he4 R4f R4g hw hz hb4
  obtain ⟨c0, c1, c2, c3, c4, c5⟩ := Xf.out.box
  go_wp2_with fail
  try rw [hw0]
  clear hw0 hkk
  clear c0 c1 c2 c3 c4 c5
  with_reducible refine (scale_at af nf capf zf pf jf OF.out.good kk hk1 (by omega) rfl (scale_can OF.out hk1 hk9) _ Xf.out.row).mono ?_
  rintro e v1 ⟨a1, n1, cap1, z1, p1, i1, rfl, hb, hr, hf, hx⟩
  obtain ⟨w1, hw⟩ : ∃ W, v1.alloc (.cells #[.slice a1 n1 cap1, .int .i64 p1, .int .i64 i1] 51) = W := ⟨_, rfl⟩
  have hz : Below w0.heap.size w0 w1 := by rw [← hw]; exact hb.trans ((below_box _).mono hb.size)
  have Xf_1 := Lib.hid (Xf.out.under hz)
  have Xg_1 := Lib.hid (Xg.out.under hz)
  have HB_1 := Lib.hid (HB4.out.trans (hz.mono HB4.out.size))
  have Xa_1 := Lib.hid (show Bx w1 v1.heap.size a1 n1 cap1 p1 i1 z1 by rw [← hw]; exact Bx.new hr)
  have HFa := Lib.hid hf
  have hw1 := hw
  have SZ1 := Lib.hid (show v1.heap.size < w1.heap.size ∧ w0.heap.size ≤ v1.heap.size from ⟨by rw [← hw]; simp, hb.size⟩)
  have RF1 := Lib.hid (And.intro hr.far hx)
  clear hb hr hf hx hz hw
  obtain ⟨c0, c1, c2, c3, c4, c5⟩ := Xg_1.out.box
  go_wp2_with fail
  try rw [hw1]
  clear hw1
  clear c0 c1 c2 c3 c4 c5
  with_reducible refine (scale_at ag ng capg zg pg jg OG.out.good kk hk1 (by omega) rfl (scale_can OG.out hk1 hk9) _ Xg_1.out.row).mono ?_
  rintro e v2 ⟨a2, n2, cap2, z2, p2, i2, rfl, hb, hr, hf, hx⟩
  obtain ⟨w2, hw⟩ : ∃ W, v2.alloc (.cells #[.slice a2 n2 cap2, .int .i64 p2, .int .i64 i2] 51) = W := ⟨_, rfl⟩
  have hz : Below w1.heap.size w1 w2 := by rw [← hw]; exact hb.trans ((below_box _).mono hb.size)
  have Xf_2 := Lib.hid (Xf_1.out.under hz)
  have Xg_2 := Lib.hid (Xg_1.out.under hz)
  have Xa_2 := Lib.hid (Xa_1.out.under hz)
  have HB_2 := Lib.hid (HB_1.out.trans (hz.mono HB_1.out.size))
  have Xb_2 := Lib.hid (show Bx w2 v2.heap.size a2 n2 cap2 p2 i2 z2 by rw [← hw]; exact Bx.new hr)
  have HFb := Lib.hid hf
  have hw2 := hw
  have SZ2 := Lib.hid (show v2.heap.size < w2.heap.size ∧ w1.heap.size ≤ v2.heap.size from ⟨by rw [← hw]; simp, hb.size⟩)
  have RF2 := Lib.hid (And.intro hr.far hx)
  clear hb hr hf hx hz hw
  obtain ⟨c0, c1, c2, c3, c4, c5⟩ := Xf_2.out.box
  obtain ⟨d0, d1, d2, d3, d4, d5⟩ := Xg_2.out.box
  go_wp2_with fail
  try rw [hw2]
  clear hw2
  clear c0 c1 c2 c3 c4 c5 d0 d1 d2 d3 d4 d5
  with_reducible refine (sum_at af nf capf zf pf jf OF.out.good ag ng capg zg pg jg OG.out.good (by have := OF.out.p8; omega) (by have := OG.out.p8; omega) rfl (sum_can OF.out OG.out (by omega)) _ Xf_2.out.row Xg_2.out.row).mono ?_
  rintro e v3 ⟨a3, n3, cap3, z3, p3, i3, rfl, hb, hr, hf, hx⟩
  obtain ⟨w3, hw⟩ : ∃ W, v3.alloc (.cells #[.slice a3 n3 cap3, .int .i64 p3, .int .i64 i3] 51) = W := ⟨_, rfl⟩
  have hz : Below w2.heap.size w2 w3 := by rw [← hw]; exact hb.trans ((below_box _).mono hb.size)
  have Xf_3 := Lib.hid (Xf_2.out.under hz)
  have Xg_3 := Lib.hid (Xg_2.out.under hz)
  have Xa_3 := Lib.hid (Xa_2.out.under hz)
  have Xb_3 := Lib.hid (Xb_2.out.under hz)
  have HB_3 := Lib.hid (HB_2.out.trans (hz.mono HB_2.out.size))
  have Xx_3 := Lib.hid (show Bx w3 v3.heap.size a3 n3 cap3 p3 i3 z3 by rw [← hw]; exact Bx.new hr)
  have HFx := Lib.hid hf
  have hw3 := hw
  have SZ3 := Lib.hid (show v3.heap.size < w3.heap.size ∧ w2.heap.size ≤ v3.heap.size from ⟨by rw [← hw]; simp, hb.size⟩)
  have RF3 := Lib.hid (And.intro hr.far hx)
  clear hb hr hf hx hz hw
  obtain ⟨c0, c1, c2, c3, c4, c5⟩ := Xa_3.out.box
  obtain ⟨d0, d1, d2, d3, d4, d5⟩ := Xb_3.out.box
  go_wp2_with fail
  try rw [hw3]
  clear hw3
  clear c0 c1 c2 c3 c4 c5 d0 d1 d2 d3 d4 d5
  with_reducible refine (sum_at a1 n1 cap1 z1 p1 i1 HFa.out.good a2 n2 cap2 z2 p2 i2 HFb.out.good (by have := OF.out.p8; have := eform_per OF.out.good (scale_per OF.out.good) HFa.out; omega) (by have := OG.out.p8; have := eform_per OG.out.good (scale_per OG.out.good) HFb.out; omega) (sum_scale HFa.out.val HFb.out.val HFx.out.val) (mul_can HFx.out.good (sum_bd OF.out OG.out HFx.out.val) hk1 hk9) _ Xa_3.out.row Xb_3.out.row).mono ?_
  rintro e v4 ⟨a4, n4, cap4, z4, p4, i4, rfl, hb, hr, hf, hx⟩
  obtain ⟨w4, hw⟩ : ∃ W, v4.alloc (.cells #[.slice a4 n4 cap4, .int .i64 p4, .int .i64 i4] 51) = W := ⟨_, rfl⟩
  have hz : Below w3.heap.size w3 w4 := by rw [← hw]; exact hb.trans ((below_box _).mono hb.size)
  have Xf_4 := Lib.hid (Xf_3.out.under hz)
  have Xg_4 := Lib.hid (Xg_3.out.under hz)
  have Xa_4 := Lib.hid (Xa_3.out.under hz)
  have Xb_4 := Lib.hid (Xb_3.out.under hz)
  have Xx_4 := Lib.hid (Xx_3.out.under hz)
  have HB_4 := Lib.hid (HB_3.out.trans (hz.mono HB_3.out.size))
  have Xy_4 := Lib.hid (show Bx w4 v4.heap.size a4 n4 cap4 p4 i4 z4 by rw [← hw]; exact Bx.new hr)
  have HFy := Lib.hid hf
  have hw4 := hw
  have SZ4 := Lib.hid (show v4.heap.size < w4.heap.size ∧ w3.heap.size ≤ v4.heap.size from ⟨by rw [← hw]; simp, hb.size⟩)
  have RF4 := Lib.hid (And.intro hr.far hx)
  clear hb hr hf hx hz hw
  obtain ⟨c0, c1, c2, c3, c4, c5⟩ := Xx_4.out.box
  go_wp2_with fail
  try rw [hw4]
  clear hw4
  clear c0 c1 c2 c3 c4 c5
  with_reducible refine (scale_at a3 n3 cap3 z3 p3 i3 HFx.out.good kk hk1 (by omega) rfl (mul_can HFx.out.good (sum_bd OF.out OG.out HFx.out.val) hk1 hk9) _ Xx_4.out.row).mono ?_
  rintro e v5 ⟨a5, n5, cap5, z5, p5, i5, rfl, hb, hr, hf, hx⟩
  obtain ⟨w5, hw⟩ : ∃ W, v5.alloc (.cells #[.slice a5 n5 cap5, .int .i64 p5, .int .i64 i5] 51) = W := ⟨_, rfl⟩
  have hz : Below w4.heap.size w4 w5 := by rw [← hw]; exact hb.trans ((below_box _).mono hb.size)
  have Xf_5 := Lib.hid (Xf_4.out.under hz)
  have Xg_5 := Lib.hid (Xg_4.out.under hz)
  have Xa_5 := Lib.hid (Xa_4.out.under hz)
  have Xb_5 := Lib.hid (Xb_4.out.under hz)
  have Xx_5 := Lib.hid (Xx_4.out.under hz)
  have Xy_5 := Lib.hid (Xy_4.out.under hz)
  have HB_5 := Lib.hid (HB_4.out.trans (hz.mono HB_4.out.size))
  have Xz_5 := Lib.hid (show Bx w5 v5.heap.size a5 n5 cap5 p5 i5 z5 by rw [← hw]; exact Bx.new hr)
  have HFz := Lib.hid hf
  have hw5 := hw
  have SZ5 := Lib.hid (show v5.heap.size < w5.heap.size ∧ w4.heap.size ≤ v5.heap.size from ⟨by rw [← hw]; simp, hb.size⟩)
  have RF5 := Lib.hid (And.intro hr.far hx)
  clear hb hr hf hx hz hw
  obtain ⟨c0, c1, c2, c3, c4, c5⟩ := Xf_5.out.box
  go_wp2_with fail
  try rw [hw5]
  clear hw5
  clear c0 c1 c2 c3 c4 c5
  with_reducible refine (sum_at af nf capf zf pf jf OF.out.good af nf capf zf pf jf OF.out.good (by have := OF.out.p8; omega) (by have := OF.out.p8; omega) (twice zf pf jf) (scale_can OF.out (by omega) (by omega)) _ Xf_5.out.row Xf_5.out.row).mono ?_
  rintro e v6 ⟨a6, n6, cap6, z6, p6, i6, rfl, hb, hr, hf, hx⟩
  obtain ⟨w6, hw⟩ : ∃ W, v6.alloc (.cells #[.slice a6 n6 cap6, .int .i64 p6, .int .i64 i6] 51) = W := ⟨_, rfl⟩
  have hz : Below w5.heap.size w5 w6 := by rw [← hw]; exact hb.trans ((below_box _).mono hb.size)
  have Xf_6 := Lib.hid (Xf_5.out.under hz)
  have Xg_6 := Lib.hid (Xg_5.out.under hz)
  have Xa_6 := Lib.hid (Xa_5.out.under hz)
  have Xb_6 := Lib.hid (Xb_5.out.under hz)
  have Xx_6 := Lib.hid (Xx_5.out.under hz)
  have Xy_6 := Lib.hid (Xy_5.out.under hz)
  have Xz_6 := Lib.hid (Xz_5.out.under hz)
  have HB_6 := Lib.hid (HB_5.out.trans (hz.mono HB_5.out.size))
  have Xu_6 := Lib.hid (show Bx w6 v6.heap.size a6 n6 cap6 p6 i6 z6 by rw [← hw]; exact Bx.new hr)
  have HFu := Lib.hid hf
  have hw6 := hw
  have SZ6 := Lib.hid (show v6.heap.size < w6.heap.size ∧ w5.heap.size ≤ v6.heap.size from ⟨by rw [← hw]; simp, hb.size⟩)
  have RF6 := Lib.hid (And.intro hr.far hx)
  clear hb hr hf hx hz hw
  obtain ⟨c0, c1, c2, c3, c4, c5⟩ := Xf_6.out.box
  go_wp2_with fail
  try rw [hw6]
  clear hw6
  clear c0 c1 c2 c3 c4 c5
  with_reducible refine (scale_at af nf capf zf pf jf OF.out.good 2 (by omega) (by omega) rfl (scale_can OF.out (by omega) (by omega)) _ Xf_6.out.row).mono ?_
  rintro e v7 ⟨a7, n7, cap7, z7, p7, i7, rfl, hb, hr, hf, hx⟩
  obtain ⟨w7, hw⟩ : ∃ W, v7.alloc (.cells #[.slice a7 n7 cap7, .int .i64 p7, .int .i64 i7] 51) = W := ⟨_, rfl⟩
  have hz : Below w6.heap.size w6 w7 := by rw [← hw]; exact hb.trans ((below_box _).mono hb.size)
  have Xf_7 := Lib.hid (Xf_6.out.under hz)
  have Xg_7 := Lib.hid (Xg_6.out.under hz)
  have Xa_7 := Lib.hid (Xa_6.out.under hz)
  have Xb_7 := Lib.hid (Xb_6.out.under hz)
  have Xx_7 := Lib.hid (Xx_6.out.under hz)
  have Xy_7 := Lib.hid (Xy_6.out.under hz)
  have Xz_7 := Lib.hid (Xz_6.out.under hz)
  have Xu_7 := Lib.hid (Xu_6.out.under hz)
  have HB_7 := Lib.hid (HB_6.out.trans (hz.mono HB_6.out.size))
  have Xv_7 := Lib.hid (show Bx w7 v7.heap.size a7 n7 cap7 p7 i7 z7 by rw [← hw]; exact Bx.new hr)
  have HFv := Lib.hid hf
  have hw7 := hw
  have SZ7 := Lib.hid (show v7.heap.size < w7.heap.size ∧ w6.heap.size ≤ v7.heap.size from ⟨by rw [← hw]; simp, hb.size⟩)
  have RF7 := Lib.hid (And.intro hr.far hx)
  clear hb hr hf hx hz hw
  obtain ⟨c0, c1, c2, c3, c4, c5⟩ := Xy_7.out.box
  obtain ⟨d0, d1, d2, d3, d4, d5⟩ := Xz_7.out.box
  go_wp2_with fail
  try rw [hw7]
  clear hw7
  clear c0 c1 c2 c3 c4 c5 d0 d1 d2 d3 d4 d5
  with_reducible refine (same_at HFy.out HFz.out _ Xy_7.out.row Xz_7.out.row).mono ?_
  rintro e w8 ⟨rfl, hb⟩
  have Xf_8 := Lib.hid (Xf_7.out.under hb)
  have Xg_8 := Lib.hid (Xg_7.out.under hb)
  have Xa_8 := Lib.hid (Xa_7.out.under hb)
  have Xb_8 := Lib.hid (Xb_7.out.under hb)
  have Xx_8 := Lib.hid (Xx_7.out.under hb)
  have Xy_8 := Lib.hid (Xy_7.out.under hb)
  have Xz_8 := Lib.hid (Xz_7.out.under hb)
  have Xu_8 := Lib.hid (Xu_7.out.under hb)
  have Xv_8 := Lib.hid (Xv_7.out.under hb)
  have HB_8 := Lib.hid (HB_7.out.trans (hb.mono HB_7.out.size))
  have SY8 := Lib.hid hb.size
  clear hb
  obtain ⟨c0, c1, c2, c3, c4, c5⟩ := Xu_8.out.box
  obtain ⟨d0, d1, d2, d3, d4, d5⟩ := Xv_8.out.box
  go_wp2_with fail
  clear c0 c1 c2 c3 c4 c5 d0 d1 d2 d3 d4 d5
  with_reducible refine (same_at HFu.out HFv.out _ Xu_8.out.row Xv_8.out.row).mono ?_
  rintro e w9 ⟨rfl, hb⟩
  have Xf_9 := Lib.hid (Xf_8.out.under hb)
  have Xg_9 := Lib.hid (Xg_8.out.under hb)
  have Xa_9 := Lib.hid (Xa_8.out.under hb)
  have Xb_9 := Lib.hid (Xb_8.out.under hb)
  have Xx_9 := Lib.hid (Xx_8.out.under hb)
  have Xy_9 := Lib.hid (Xy_8.out.under hb)
  have Xz_9 := Lib.hid (Xz_8.out.under hb)
  have Xu_9 := Lib.hid (Xu_8.out.under hb)
  have Xv_9 := Lib.hid (Xv_8.out.under hb)
  have HB_9 := Lib.hid (HB_8.out.trans (hb.mono HB_8.out.size))
  have SY9 := Lib.hid hb.size
  clear hb
  obtain ⟨c0, c1, c2, c3, c4, c5⟩ := Xf_9.out.box
  obtain ⟨d0, d1, d2, d3, d4, d5⟩ := Xg_9.out.box
  go_wp2_with fail
  clear c0 c1 c2 c3 c4 c5 d0 d1 d2 d3 d4 d5
  by_cases hc : ECan (eMin zf pf jf zg pg jg)
  · with_reducible refine ((min_at af nf capf zf pf jf OF.out.good ag ng capg zg pg jg OG.out.good (by have := OF.out.p8; omega) (by have := OG.out.p8; omega) rfl _ Xf_9.out.row Xg_9.out.row).mono fun _ _ h => h.ok hc).mono ?_
    rintro e v10 ⟨a10, n10, cap10, z10, p10, i10, rfl, hb, hr, hf, hx⟩
    have HFm := Lib.hid hf
    have RF10 := Lib.hid (And.intro hr.far hx)
    obtain ⟨w10, hw⟩ : ∃ W, (((v10.setCell ⟨v3.heap.size, 0, none⟩ (.slice a10 n10 cap10)).setCell ⟨v3.heap.size, 1, none⟩ (.int .i64 p10)).setCell ⟨v3.heap.size, 2, none⟩ (.int .i64 i10)) = W := ⟨_, rfl⟩
    have SZ10 := Lib.hid (show w10.heap.size = v10.heap.size ∧ w9.heap.size ≤ v10.heap.size from ⟨by rw [← hw]; simp [World.setCell], hb.size⟩)
    have Xa_10 := Lib.hid (show Bx w10 v1.heap.size a1 n1 cap1 p1 i1 z1 by rw [← hw]; exact (Xa_9.out.under hb).set (by have q1 := SZ1.out; have q2 := SZ2.out; have q3 := SZ3.out; have q4 := SZ4.out; have q5 := SZ5.out; have q6 := SZ6.out; have q7 := SZ7.out; have q8 := SY8.out; have q9 := SY9.out; omega) (fun x hx hn => by have q0 := RF1.out.1 x hx hn; have q1 := SZ1.out; have q2 := SZ2.out; have q3 := SZ3.out; have q4 := SZ4.out; have q5 := SZ5.out; have q6 := SZ6.out; have q7 := SZ7.out; have q8 := SY8.out; have q9 := SY9.out; omega) _ _ _)
    have Xb_10 := Lib.hid (show Bx w10 v2.heap.size a2 n2 cap2 p2 i2 z2 by rw [← hw]; exact (Xb_9.out.under hb).set (by have q1 := SZ1.out; have q2 := SZ2.out; have q3 := SZ3.out; have q4 := SZ4.out; have q5 := SZ5.out; have q6 := SZ6.out; have q7 := SZ7.out; have q8 := SY8.out; have q9 := SY9.out; omega) (fun x hx hn => by have q0 := RF2.out.1 x hx hn; have q1 := SZ1.out; have q2 := SZ2.out; have q3 := SZ3.out; have q4 := SZ4.out; have q5 := SZ5.out; have q6 := SZ6.out; have q7 := SZ7.out; have q8 := SY8.out; have q9 := SY9.out; omega) _ _ _)
    have Xx_10 := Lib.hid (show Bx w10 v3.heap.size a10 n10 cap10 p10 i10 z10 by rw [← hw]; exact (Xx_9.out.under hb).put hr (fun x hx hn => by have q0 := RF10.out.2 x hx; have q1 := SZ1.out; have q2 := SZ2.out; have q3 := SZ3.out; have q4 := SZ4.out; have q5 := SZ5.out; have q6 := SZ6.out; have q7 := SZ7.out; have q8 := SY8.out; have q9 := SY9.out; omega))
    have Xy_10 := Lib.hid (show Bx w10 v4.heap.size a4 n4 cap4 p4 i4 z4 by rw [← hw]; exact (Xy_9.out.under hb).set (by have q1 := SZ1.out; have q2 := SZ2.out; have q3 := SZ3.out; have q4 := SZ4.out; have q5 := SZ5.out; have q6 := SZ6.out; have q7 := SZ7.out; have q8 := SY8.out; have q9 := SY9.out; omega) (fun x hx hn => by have q0 := RF4.out.2 x hx; have q1 := SZ1.out; have q2 := SZ2.out; have q3 := SZ3.out; have q4 := SZ4.out; have q5 := SZ5.out; have q6 := SZ6.out; have q7 := SZ7.out; have q8 := SY8.out; have q9 := SY9.out; omega) _ _ _)
    have Xz_10 := Lib.hid (show Bx w10 v5.heap.size a5 n5 cap5 p5 i5 z5 by rw [← hw]; exact (Xz_9.out.under hb).set (by have q1 := SZ1.out; have q2 := SZ2.out; have q3 := SZ3.out; have q4 := SZ4.out; have q5 := SZ5.out; have q6 := SZ6.out; have q7 := SZ7.out; have q8 := SY8.out; have q9 := SY9.out; omega) (fun x hx hn => by have q0 := RF5.out.2 x hx; have q1 := SZ1.out; have q2 := SZ2.out; have q3 := SZ3.out; have q4 := SZ4.out; have q5 := SZ5.out; have q6 := SZ6.out; have q7 := SZ7.out; have q8 := SY8.out; have q9 := SY9.out; omega) _ _ _)
    have HB_10 := Lib.hid (show Below W.heap.size W w10 by rw [← hw]; exact below_set3 (HB_9.out.trans (hb.mono HB_9.out.size)) (by have q1 := SZ1.out; have q2 := SZ2.out; have q3 := SZ3.out; have q4 := SZ4.out; have q5 := SZ5.out; have q6 := SZ6.out; have q7 := SZ7.out; have q8 := SY8.out; have q9 := SY9.out; have q10 := HB4.out.size; omega) _ _ _)
    obtain ⟨c0, c1, c2, c3, c4, c5⟩ := (Xx_9.out.under hb).box
    obtain ⟨d0, d1, d2, d3, d4, d5⟩ := Xa_10.out.box
    obtain ⟨e0, e1, e2, e3, e4, e5⟩ := Xb_10.out.box
    clear hb hr hf hx
    go_wp2_with fail
    try rw [hw]
    clear hw c0 c1 c2 c3 c4 c5 d0 d1 d2 d3 d4 d5 e0 e1 e2 e3 e4 e5
    with_reducible refine ((min_at a1 n1 cap1 z1 p1 i1 HFa.out.good a2 n2 cap2 z2 p2 i2 HFb.out.good (by have := OF.out.p8; have := eform_per OF.out.good (scale_per OF.out.good) HFa.out; omega) (by have := OG.out.p8; have := eform_per OG.out.good (scale_per OG.out.good) HFb.out; omega) (min_scale hk1 HFa.out.val HFb.out.val) _ Xa_10.out.row Xb_10.out.row).mono fun _ _ h => h.ok ((min_can_iff OF.out OG.out hk1 hk9).2 hc)).mono ?_
    rintro e v11 ⟨a11, n11, cap11, z11, p11, i11, rfl, hb, hr, hf, hx⟩
    have HFn := Lib.hid hf
    have RF11 := Lib.hid (And.intro hr.far hx)
    obtain ⟨w11, hw⟩ : ∃ W, (((v11.setCell ⟨v4.heap.size, 0, none⟩ (.slice a11 n11 cap11)).setCell ⟨v4.heap.size, 1, none⟩ (.int .i64 p11)).setCell ⟨v4.heap.size, 2, none⟩ (.int .i64 i11)) = W := ⟨_, rfl⟩
    have SZ11 := Lib.hid (show w11.heap.size = v11.heap.size ∧ w10.heap.size ≤ v11.heap.size from ⟨by rw [← hw]; simp [World.setCell], hb.size⟩)
    have Xx_11 := Lib.hid (show Bx w11 v3.heap.size a10 n10 cap10 p10 i10 z10 by rw [← hw]; exact (Xx_10.out.under hb).set (by have q1 := SZ1.out; have q2 := SZ2.out; have q3 := SZ3.out; have q4 := SZ4.out; have q5 := SZ5.out; have q6 := SZ6.out; have q7 := SZ7.out; have q8 := SY8.out; have q9 := SY9.out; omega) (fun x hx hn => by have q0 := RF10.out.2 x hx; have q1 := SZ1.out; have q2 := SZ2.out; have q3 := SZ3.out; have q4 := SZ4.out; have q5 := SZ5.out; have q6 := SZ6.out; have q7 := SZ7.out; have q8 := SY8.out; have q9 := SY9.out; omega) _ _ _)
    have Xy_11 := Lib.hid (show Bx w11 v4.heap.size a11 n11 cap11 p11 i11 z11 by rw [← hw]; exact (Xy_10.out.under hb).put hr (fun x hx hn => by have q0 := RF11.out.2 x hx; have q1 := SZ1.out; have q2 := SZ2.out; have q3 := SZ3.out; have q4 := SZ4.out; have q5 := SZ5.out; have q6 := SZ6.out; have q7 := SZ7.out; have q8 := SY8.out; have q9 := SY9.out; have q10 := SZ10.out; omega))
    have Xz_11 := Lib.hid (show Bx w11 v5.heap.size a5 n5 cap5 p5 i5 z5 by rw [← hw]; exact (Xz_10.out.under hb).set (by have q1 := SZ1.out; have q2 := SZ2.out; have q3 := SZ3.out; have q4 := SZ4.out; have q5 := SZ5.out; have q6 := SZ6.out; have q7 := SZ7.out; have q8 := SY8.out; have q9 := SY9.out; omega) (fun x hx hn => by have q0 := RF5.out.2 x hx; have q1 := SZ1.out; have q2 := SZ2.out; have q3 := SZ3.out; have q4 := SZ4.out; have q5 := SZ5.out; have q6 := SZ6.out; have q7 := SZ7.out; have q8 := SY8.out; have q9 := SY9.out; omega) _ _ _)
    have HB_11 := Lib.hid (show Below W.heap.size W w11 by rw [← hw]; exact below_set3 (HB_10.out.trans (hb.mono HB_10.out.size)) (by have q1 := SZ1.out; have q2 := SZ2.out; have q3 := SZ3.out; have q4 := SZ4.out; have q5 := SZ5.out; have q6 := SZ6.out; have q7 := SZ7.out; have q8 := SY8.out; have q9 := SY9.out; have q10 := HB4.out.size; omega) _ _ _)
    obtain ⟨c0, c1, c2, c3, c4, c5⟩ := (Xy_10.out.under hb).box
    obtain ⟨d0, d1, d2, d3, d4, d5⟩ := Xx_11.out.box
    clear hb hr hf hx
    go_wp2_with fail
    try rw [hw]
    clear hw c0 c1 c2 c3 c4 c5 d0 d1 d2 d3 d4 d5
    with_reducible refine (scale_at a10 n10 cap10 z10 p10 i10 HFm.out.good kk hk1 (by omega) (scale_eq HFm.out.val) ((min_can_iff OF.out OG.out hk1 hk9).2 hc) _ Xx_11.out.row).mono ?_
    rintro e v12 ⟨a12, n12, cap12, z12, p12, i12, rfl, hb, hr, hf, hx⟩
    have HFo := Lib.hid hf
    have RF12 := Lib.hid (And.intro hr.far hx)
    obtain ⟨w12, hw⟩ : ∃ W, (((v12.setCell ⟨v5.heap.size, 0, none⟩ (.slice a12 n12 cap12)).setCell ⟨v5.heap.size, 1, none⟩ (.int .i64 p12)).setCell ⟨v5.heap.size, 2, none⟩ (.int .i64 i12)) = W := ⟨_, rfl⟩
    have Xy_12 := Lib.hid (show Bx w12 v4.heap.size a11 n11 cap11 p11 i11 z11 by rw [← hw]; exact (Xy_11.out.under hb).set (by have q1 := SZ1.out; have q2 := SZ2.out; have q3 := SZ3.out; have q4 := SZ4.out; have q5 := SZ5.out; have q6 := SZ6.out; have q7 := SZ7.out; have q8 := SY8.out; have q9 := SY9.out; omega) (fun x hx hn => by have q0 := RF11.out.2 x hx; have q1 := SZ1.out; have q2 := SZ2.out; have q3 := SZ3.out; have q4 := SZ4.out; have q5 := SZ5.out; have q6 := SZ6.out; have q7 := SZ7.out; have q8 := SY8.out; have q9 := SY9.out; have q10 := SZ10.out; omega) _ _ _)
    have Xz_12 := Lib.hid (show Bx w12 v5.heap.size a12 n12 cap12 p12 i12 z12 by rw [← hw]; exact (Xz_11.out.under hb).put hr (fun x hx hn => by have q0 := RF12.out.2 x hx; have q1 := SZ1.out; have q2 := SZ2.out; have q3 := SZ3.out; have q4 := SZ4.out; have q5 := SZ5.out; have q6 := SZ6.out; have q7 := SZ7.out; have q8 := SY8.out; have q9 := SY9.out; have q10 := SZ10.out; have q11 := SZ11.out; omega))
    have HB_12 := Lib.hid (show Below W.heap.size W w12 by rw [← hw]; exact below_set3 (HB_11.out.trans (hb.mono HB_11.out.size)) (by have q1 := SZ1.out; have q2 := SZ2.out; have q3 := SZ3.out; have q4 := SZ4.out; have q5 := SZ5.out; have q6 := SZ6.out; have q7 := SZ7.out; have q8 := SY8.out; have q9 := SY9.out; have q10 := HB4.out.size; omega) _ _ _)
    obtain ⟨c0, c1, c2, c3, c4, c5⟩ := (Xz_11.out.under hb).box
    obtain ⟨d0, d1, d2, d3, d4, d5⟩ := Xy_12.out.box
    obtain ⟨e0, e1, e2, e3, e4, e5⟩ := Xz_12.out.box
    clear hb hr hf hx
    go_wp2_with fail
    try rw [hw]
    clear hw c0 c1 c2 c3 c4 c5 d0 d1 d2 d3 d4 d5 e0 e1 e2 e3 e4 e5
    with_reducible refine (same_at HFn.out HFo.out _ Xy_12.out.row Xz_12.out.row).mono ?_
    rintro e w13 ⟨rfl, hb⟩
    have HB_13 := Lib.hid (HB_12.out.trans (hb.mono HB_12.out.size))
    clear hb
    go_wp2_with fail
    refine (awake5 _).mono ?_
    rintro e w14 ⟨rfl, hb⟩
    have HB_14 := Lib.hid (HB_13.out.trans (hb.mono HB_13.out.size))
    clear hb
    go_wp2_with fail
    go_ret
    exact ⟨rfl, HB_14.out⟩
  · with_reducible refine ((min_at af nf capf zf pf jf OF.out.good ag ng capg zg pg jg OG.out.good (by have := OF.out.p8; omega) (by have := OG.out.p8; omega) rfl _ Xf_9.out.row Xg_9.out.row).mono fun _ _ h => h.no hc).mono ?_
    rintro e v10 ⟨rfl, hb⟩
    obtain ⟨w10, hw⟩ : ∃ W, (((v10.setCell ⟨v3.heap.size, 0, none⟩ (.slice none 0 0)).setCell ⟨v3.heap.size, 1, none⟩ (.int .i64 0)).setCell ⟨v3.heap.size, 2, none⟩ (.int .i64 0)) = W := ⟨_, rfl⟩
    have Xa_10 := Lib.hid (show Bx w10 v1.heap.size a1 n1 cap1 p1 i1 z1 by rw [← hw]; exact (Xa_9.out.under hb).set (by have q1 := SZ1.out; have q2 := SZ2.out; have q3 := SZ3.out; have q4 := SZ4.out; have q5 := SZ5.out; have q6 := SZ6.out; have q7 := SZ7.out; have q8 := SY8.out; have q9 := SY9.out; omega) (fun x hx hn => by have q0 := RF1.out.1 x hx hn; have q1 := SZ1.out; have q2 := SZ2.out; have q3 := SZ3.out; have q4 := SZ4.out; have q5 := SZ5.out; have q6 := SZ6.out; have q7 := SZ7.out; have q8 := SY8.out; have q9 := SY9.out; omega) _ _ _)
    have Xb_10 := Lib.hid (show Bx w10 v2.heap.size a2 n2 cap2 p2 i2 z2 by rw [← hw]; exact (Xb_9.out.under hb).set (by have q1 := SZ1.out; have q2 := SZ2.out; have q3 := SZ3.out; have q4 := SZ4.out; have q5 := SZ5.out; have q6 := SZ6.out; have q7 := SZ7.out; have q8 := SY8.out; have q9 := SY9.out; omega) (fun x hx hn => by have q0 := RF2.out.1 x hx hn; have q1 := SZ1.out; have q2 := SZ2.out; have q3 := SZ3.out; have q4 := SZ4.out; have q5 := SZ5.out; have q6 := SZ6.out; have q7 := SZ7.out; have q8 := SY8.out; have q9 := SY9.out; omega) _ _ _)
    have Xy_10 := Lib.hid (show Bx w10 v4.heap.size a4 n4 cap4 p4 i4 z4 by rw [← hw]; exact (Xy_9.out.under hb).set (by have q1 := SZ1.out; have q2 := SZ2.out; have q3 := SZ3.out; have q4 := SZ4.out; have q5 := SZ5.out; have q6 := SZ6.out; have q7 := SZ7.out; have q8 := SY8.out; have q9 := SY9.out; omega) (fun x hx hn => by have q0 := RF4.out.2 x hx; have q1 := SZ1.out; have q2 := SZ2.out; have q3 := SZ3.out; have q4 := SZ4.out; have q5 := SZ5.out; have q6 := SZ6.out; have q7 := SZ7.out; have q8 := SY8.out; have q9 := SY9.out; omega) _ _ _)
    have HB_10 := Lib.hid (show Below W.heap.size W w10 by rw [← hw]; exact below_set3 (HB_9.out.trans (hb.mono HB_9.out.size)) (by have q1 := SZ1.out; have q2 := SZ2.out; have q3 := SZ3.out; have q4 := SZ4.out; have q5 := SZ5.out; have q6 := SZ6.out; have q7 := SZ7.out; have q8 := SY8.out; have q9 := SY9.out; have q10 := HB4.out.size; omega) _ _ _)
    obtain ⟨c0, c1, c2, c3, c4, c5⟩ := (Xx_9.out.under hb).box
    obtain ⟨d0, d1, d2, d3, d4, d5⟩ := Xa_10.out.box
    obtain ⟨e0, e1, e2, e3, e4, e5⟩ := Xb_10.out.box
    clear hb
    go_wp2_with fail
    try rw [hw]
    clear hw c0 c1 c2 c3 c4 c5 d0 d1 d2 d3 d4 d5 e0 e1 e2 e3 e4 e5
    with_reducible refine ((min_at a1 n1 cap1 z1 p1 i1 HFa.out.good a2 n2 cap2 z2 p2 i2 HFb.out.good (by have := OF.out.p8; have := eform_per OF.out.good (scale_per OF.out.good) HFa.out; omega) (by have := OG.out.p8; have := eform_per OG.out.good (scale_per OG.out.good) HFb.out; omega) (min_scale hk1 HFa.out.val HFb.out.val) _ Xa_10.out.row Xb_10.out.row).mono fun _ _ h => h.no (mt (min_can_iff OF.out OG.out hk1 hk9).1 hc)).mono ?_
    rintro e v11 ⟨rfl, hb⟩
    have HB_11 := Lib.hid (below_set3 (b := v4.heap.size) (HB_10.out.trans (hb.mono HB_10.out.size)) (by have q1 := SZ1.out; have q2 := SZ2.out; have q3 := SZ3.out; have q4 := SZ4.out; have q5 := SZ5.out; have q6 := SZ6.out; have q7 := SZ7.out; have q8 := SY8.out; have q9 := SY9.out; have q10 := HB4.out.size; omega) (.slice none 0 0) (.int .i64 0) (.int .i64 0))
    obtain ⟨c0, c1, c2, c3, c4, c5⟩ := (Xy_10.out.under hb).box
    clear hb
    go_wp2_with fail
    clear c0 c1 c2 c3 c4 c5
    refine (awake5 _).mono ?_
    rintro e w12 ⟨rfl, hb⟩
    have HB_12 := Lib.hid (HB_11.out.trans (hb.mono HB_11.out.size))
    clear hb
    go_wp2_with fail
    go_ret
    exact ⟨rfl, HB_12.out⟩

end Go.Proofs.Ytenfhjmaljleoaa
