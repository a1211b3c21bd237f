/- The walk of PointwiseUndoes. By the verifier's side. -/
import Derived.Test.YtenfhjmaljleoaaJPwS
import Derived.Test.YtenfhjmaljleoaaJZero
namespace Go.Proofs.Ytenfhjmaljleoaa
open Go.RowKit
set_option linter.unusedSimpArgs false

set_option maxRecDepth 100000 in
set_option maxHeartbeats 6400000 in
theorem pointwiseUndoes_walk (W : World) (a : Option Addr) (n cap : Nat) (hrow : RowAt W a n cap) :
    Calls Try.prog 11 #[.slice a n cap] W fun e w' => e = .returned (.bool true) ∧ Below W.heap.size W w' := by
  have HR := Lib.hid hrow
  clear hrow
  go_enter Try.func11, Try.ntmps11
  go_wp2_with fail
  refine (new_any a n cap _ HR.out).mono ?_
  rintro e u1 ⟨rfl, hb1, hz1, ra, rn, rc, hs1⟩
  have HB1 := Lib.hid hb1
  have HS1 := Lib.hid hs1
  have Z1 := Lib.hid hz1
  clear hb1 hz1 hs1
  go_wp2_with fail
  refine (zero_any 9 (by omega) (by omega) _ ra rn rc _ HS1.out).mono ?_
  rintro e u2 ⟨af, nf, capf, zf, pf, jf, rfl, hs2, he2, hr2, g2, hf2, h02, sm2, hx2⟩
  have TY := Lib.hid (tiny_of g2 hf2 sm2.1 sm2.2.1 sm2.2.2.1 sm2.2.2.2)
  have H0 := Lib.hid h02
  obtain ⟨u3, hw⟩ : ∃ W, u2.alloc (.cells #[.slice af nf capf, .int .i64 pf, .int .i64 jf] 51) = W := ⟨_, rfl⟩
  have hz : Below u2.heap.size u2 u3 := by rw [← hw]; exact below_box _
  have HS3 := Lib.hid (show SrcAt u3 W.heap.size ra rn rc by rw [← hw]; exact src_alloc hs2 _)
  have Xf := Lib.hid (show Bx u3 u2.heap.size af nf capf pf jf zf by rw [← hw]; exact Bx.new hr2)
  have HX := Lib.hid (show ¬ u2.heap.size = W.heap.size ∧ ∀ x, af = some x → ¬ x.block = W.heap.size from ⟨by have := he2.size; have := Z1.out; omega, fun x hx => by have := hx2 x hx; have := Z1.out; omega⟩)
  have HB3 := Lib.hid ((HB1.out.trans (he2.below (Nat.le_refl _) HB1.out.size)).trans (hz.mono (HB1.out.trans (he2.below (Nat.le_refl _) HB1.out.size)).size))
  have hw3 := hw
  clear hs2 he2 hr2 g2 hf2 h02 sm2 hx2 hw hz
  go_wp2_with fail
  try rw [hw3]
  clear hw3
  refine (n_any 30 (by omega) (by omega) _ ra rn rc _ HS3.out).mono ?_
  rintro e u4 ⟨r1, ⟨r10, r11⟩, rfl, hs4, he4⟩
  have HS4 := Lib.hid hs4
  have Xf4 := Lib.hid (show Bx u4 u2.heap.size af nf capf pf jf zf from ⟨Xf.out.box.apart he4.apart HX.out.1, Xf.out.row.apart he4.apart HX.out.2⟩)
  have HB4 := Lib.hid (HB3.out.trans (he4.below (Nat.le_refl _)))
  clear hs4 he4
  go_wp2_with fail
  refine (n_any 30 (by omega) (by omega) _ ra rn rc _ HS4.out).mono ?_
  rintro e u5 ⟨r2, ⟨r20, r21⟩, rfl, hs5, he5⟩
  have Xf5 := Lib.hid (show Bx u5 u2.heap.size af nf capf pf jf zf from ⟨Xf4.out.box.apart he5.apart HX.out.1, Xf4.out.row.apart he5.apart HX.out.2⟩)
  have HB5 := Lib.hid (HB4.out.trans (he5.below (Nat.le_refl _)))
  clear hs5 he5
  obtain ⟨kn, rfl⟩ := Int.eq_ofNat_of_zero_le r10
  obtain ⟨km, rfl⟩ := Int.eq_ofNat_of_zero_le r20
  have hn30 : kn < 30 := by omega
  have hm30 : km < 30 := by omega
  clear r10 r11 r20 r21
  obtain ⟨c0, c1, c2, c3, c4, c5⟩ := Xf5.out.box
  go_wp2_with fail
  clear c0 c1 c2 c3 c4 c5
  with_reducible refine (raise_at af nf capf zf pf jf TY.out.good (kn : Int) (by omega) (by omega) rfl (raise_can TY.out (by omega) (by omega)) _ Xf5.out.row).mono ?_
  rintro e v1 ⟨a1, n1, cap1, z1, p1, i1, rfl, hb, hr, hf, hx⟩
  obtain ⟨w1, hw⟩ : ∃ W, v1.alloc (.cells #[.slice a1 n1 cap1, .int .i64 p1, .int .i64 i1] 51) = W := ⟨_, rfl⟩
  have hz : Below u5.heap.size u5 w1 := by rw [← hw]; exact hb.trans ((below_box _).mono hb.size)
  have Xf_1 := Lib.hid (Xf5.out.under hz)
  have HB_1 := Lib.hid (HB5.out.trans (hz.mono HB5.out.size))
  have Xa_1 := Lib.hid (show Bx w1 v1.heap.size a1 n1 cap1 p1 i1 z1 by rw [← hw]; exact Bx.new hr)
  have HFa := Lib.hid hf
  have hw1 := hw
  clear hb hr hf hx hz hw
  obtain ⟨c0, c1, c2, c3, c4, c5⟩ := Xa_1.out.box
  go_wp2_with fail
  try rw [hw1]
  clear hw1
  clear c0 c1 c2 c3 c4 c5
  with_reducible refine (lower_at a1 n1 cap1 z1 p1 i1 HFa.out.good (kn : Int) (by omega) (by omega) (lower_raise TY.out.good TY.out.fin H0.out (by omega) HFa.out.val) (self_can TY.out.good) _ Xa_1.out.row).mono ?_
  rintro e v2 ⟨a2, n2, cap2, z2, p2, i2, rfl, hb, hr, hf, hx⟩
  obtain ⟨w2, hw⟩ : ∃ W, v2.alloc (.cells #[.slice a2 n2 cap2, .int .i64 p2, .int .i64 i2] 51) = W := ⟨_, rfl⟩
  have hz : Below w1.heap.size w1 w2 := by rw [← hw]; exact hb.trans ((below_box _).mono hb.size)
  have Xf_2 := Lib.hid (Xf_1.out.under hz)
  have Xa_2 := Lib.hid (Xa_1.out.under hz)
  have HB_2 := Lib.hid (HB_1.out.trans (hz.mono HB_1.out.size))
  have Xb_2 := Lib.hid (show Bx w2 v2.heap.size a2 n2 cap2 p2 i2 z2 by rw [← hw]; exact Bx.new hr)
  have HFb := Lib.hid hf
  have hw2 := hw
  clear hb hr hf hx hz hw
  obtain ⟨c0, c1, c2, c3, c4, c5⟩ := Xf_2.out.box
  go_wp2_with fail
  try rw [hw2]
  clear hw2
  clear c0 c1 c2 c3 c4 c5
  with_reducible refine (later_at af nf capf zf pf jf TY.out.good kn (by omega) _ rfl rfl (later_can TY.out (by omega)) _ Xf_2.out.row).mono ?_
  rintro e v3 ⟨a3, n3, cap3, z3, p3, i3, rfl, hb, hr, hf, hx⟩
  obtain ⟨w3, hw⟩ : ∃ W, v3.alloc (.cells #[.slice a3 n3 cap3, .int .i64 p3, .int .i64 i3] 51) = W := ⟨_, rfl⟩
  have hz : Below w2.heap.size w2 w3 := by rw [← hw]; exact hb.trans ((below_box _).mono hb.size)
  have Xf_3 := Lib.hid (Xf_2.out.under hz)
  have Xa_3 := Lib.hid (Xa_2.out.under hz)
  have Xb_3 := Lib.hid (Xb_2.out.under hz)
  have HB_3 := Lib.hid (HB_2.out.trans (hz.mono HB_2.out.size))
  have Xc_3 := Lib.hid (show Bx w3 v3.heap.size a3 n3 cap3 p3 i3 z3 by rw [← hw]; exact Bx.new hr)
  have HFc := Lib.hid hf
  have hw3 := hw
  clear hb hr hf hx hz hw
  obtain ⟨c0, c1, c2, c3, c4, c5⟩ := Xc_3.out.box
  go_wp2_with fail
  try rw [hw3]
  clear hw3
  clear c0 c1 c2 c3 c4 c5
  with_reducible refine (ahead_at a3 n3 cap3 z3 p3 i3 HFc.out.good kn (by omega) _ rfl (ahead_later TY.out.good TY.out.fin H0.out HFc.out.val) (self_can TY.out.good) _ Xc_3.out.row).mono ?_
  rintro e v4 ⟨a4, n4, cap4, z4, p4, i4, rfl, hb, hr, hf, hx⟩
  obtain ⟨w4, hw⟩ : ∃ W, v4.alloc (.cells #[.slice a4 n4 cap4, .int .i64 p4, .int .i64 i4] 51) = W := ⟨_, rfl⟩
  have hz : Below w3.heap.size w3 w4 := by rw [← hw]; exact hb.trans ((below_box _).mono hb.size)
  have Xf_4 := Lib.hid (Xf_3.out.under hz)
  have Xa_4 := Lib.hid (Xa_3.out.under hz)
  have Xb_4 := Lib.hid (Xb_3.out.under hz)
  have Xc_4 := Lib.hid (Xc_3.out.under hz)
  have HB_4 := Lib.hid (HB_3.out.trans (hz.mono HB_3.out.size))
  have Xd_4 := Lib.hid (show Bx w4 v4.heap.size a4 n4 cap4 p4 i4 z4 by rw [← hw]; exact Bx.new hr)
  have HFd := Lib.hid hf
  have hw4 := hw
  clear hb hr hf hx hz hw
  obtain ⟨c0, c1, c2, c3, c4, c5⟩ := Xc_4.out.box
  go_wp2_with fail
  try rw [hw4]
  clear hw4
  clear c0 c1 c2 c3 c4 c5
  with_reducible refine (later_at a3 n3 cap3 z3 p3 i3 HFc.out.good km (by omega) _ rfl (later_later HFc.out.val) (later_can TY.out (by omega)) _ Xc_4.out.row).mono ?_
  rintro e v5 ⟨a5, n5, cap5, z5, p5, i5, rfl, hb, hr, hf, hx⟩
  obtain ⟨w5, hw⟩ : ∃ W, v5.alloc (.cells #[.slice a5 n5 cap5, .int .i64 p5, .int .i64 i5] 51) = W := ⟨_, rfl⟩
  have hz : Below w4.heap.size w4 w5 := by rw [← hw]; exact hb.trans ((below_box _).mono hb.size)
  have Xf_5 := Lib.hid (Xf_4.out.under hz)
  have Xa_5 := Lib.hid (Xa_4.out.under hz)
  have Xb_5 := Lib.hid (Xb_4.out.under hz)
  have Xc_5 := Lib.hid (Xc_4.out.under hz)
  have Xd_5 := Lib.hid (Xd_4.out.under hz)
  have HB_5 := Lib.hid (HB_4.out.trans (hz.mono HB_4.out.size))
  have Xp_5 := Lib.hid (show Bx w5 v5.heap.size a5 n5 cap5 p5 i5 z5 by rw [← hw]; exact Bx.new hr)
  have HFp := Lib.hid hf
  have hw5 := hw
  clear hb hr hf hx hz hw
  obtain ⟨c0, c1, c2, c3, c4, c5⟩ := Xf_5.out.box
  go_wp2_with fail
  try rw [hw5]
  clear hw5
  clear c0 c1 c2 c3 c4 c5
  with_reducible refine (later_at af nf capf zf pf jf TY.out.good (kn + km) (by omega) ((kn : Int) + (km : Int)) (by omega) rfl (later_can TY.out (by omega)) _ Xf_5.out.row).mono ?_
  rintro e v6 ⟨a6, n6, cap6, z6, p6, i6, rfl, hb, hr, hf, hx⟩
  obtain ⟨w6, hw⟩ : ∃ W, v6.alloc (.cells #[.slice a6 n6 cap6, .int .i64 p6, .int .i64 i6] 51) = W := ⟨_, rfl⟩
  have hz : Below w5.heap.size w5 w6 := by rw [← hw]; exact hb.trans ((below_box _).mono hb.size)
  have Xf_6 := Lib.hid (Xf_5.out.under hz)
  have Xa_6 := Lib.hid (Xa_5.out.under hz)
  have Xb_6 := Lib.hid (Xb_5.out.under hz)
  have Xc_6 := Lib.hid (Xc_5.out.under hz)
  have Xd_6 := Lib.hid (Xd_5.out.under hz)
  have Xp_6 := Lib.hid (Xp_5.out.under hz)
  have HB_6 := Lib.hid (HB_5.out.trans (hz.mono HB_5.out.size))
  have Xq_6 := Lib.hid (show Bx w6 v6.heap.size a6 n6 cap6 p6 i6 z6 by rw [← hw]; exact Bx.new hr)
  have HFq := Lib.hid hf
  have hw6 := hw
  clear hb hr hf hx hz hw
  obtain ⟨c0, c1, c2, c3, c4, c5⟩ := Xf_6.out.box
  go_wp2_with fail
  try rw [hw6]
  clear hw6
  clear c0 c1 c2 c3 c4 c5
  with_reducible refine (normal_at af nf capf zf pf jf TY.out.good _ Xf_6.out.row).mono ?_
  rintro e v7 ⟨a7, n7, cap7, z7, p7, i7, rfl, hb, hr, hf, hx⟩
  obtain ⟨w7, hw⟩ : ∃ W, v7.alloc (.cells #[.slice a7 n7 cap7, .int .i64 p7, .int .i64 i7] 51) = W := ⟨_, rfl⟩
  have hz : Below w6.heap.size w6 w7 := by rw [← hw]; exact hb.trans ((below_box _).mono hb.size)
  have Xf_7 := Lib.hid (Xf_6.out.under hz)
  have Xa_7 := Lib.hid (Xa_6.out.under hz)
  have Xb_7 := Lib.hid (Xb_6.out.under hz)
  have Xc_7 := Lib.hid (Xc_6.out.under hz)
  have Xd_7 := Lib.hid (Xd_6.out.under hz)
  have Xp_7 := Lib.hid (Xp_6.out.under hz)
  have Xq_7 := Lib.hid (Xq_6.out.under hz)
  have HB_7 := Lib.hid (HB_6.out.trans (hz.mono HB_6.out.size))
  have Xx_7 := Lib.hid (show Bx w7 v7.heap.size a7 n7 cap7 p7 i7 z7 by rw [← hw]; exact Bx.new hr)
  have HFx := Lib.hid hf
  have hw7 := hw
  clear hb hr hf hx hz hw
  obtain ⟨c0, c1, c2, c3, c4, c5⟩ := Xb_7.out.box
  obtain ⟨d0, d1, d2, d3, d4, d5⟩ := Xx_7.out.box
  go_wp2_with fail
  try rw [hw7]
  clear hw7
  clear c0 c1 c2 c3 c4 c5 d0 d1 d2 d3 d4 d5
  with_reducible refine (same_at HFb.out HFx.out _ Xb_7.out.row Xx_7.out.row).mono ?_
  rintro e w8 ⟨rfl, hb⟩
  have Xf_8 := Lib.hid (Xf_7.out.under hb)
  have Xa_8 := Lib.hid (Xa_7.out.under hb)
  have Xb_8 := Lib.hid (Xb_7.out.under hb)
  have Xc_8 := Lib.hid (Xc_7.out.under hb)
  have Xd_8 := Lib.hid (Xd_7.out.under hb)
  have Xp_8 := Lib.hid (Xp_7.out.under hb)
  have Xq_8 := Lib.hid (Xq_7.out.under hb)
  have Xx_8 := Lib.hid (Xx_7.out.under hb)
  have HB_8 := Lib.hid (HB_7.out.trans (hb.mono HB_7.out.size))
  clear hb
  obtain ⟨c0, c1, c2, c3, c4, c5⟩ := Xd_8.out.box
  obtain ⟨d0, d1, d2, d3, d4, d5⟩ := Xx_8.out.box
  go_wp2_with fail
  clear c0 c1 c2 c3 c4 c5 d0 d1 d2 d3 d4 d5
  with_reducible refine (same_at HFd.out HFx.out _ Xd_8.out.row Xx_8.out.row).mono ?_
  rintro e w9 ⟨rfl, hb⟩
  have Xf_9 := Lib.hid (Xf_8.out.under hb)
  have Xa_9 := Lib.hid (Xa_8.out.under hb)
  have Xb_9 := Lib.hid (Xb_8.out.under hb)
  have Xc_9 := Lib.hid (Xc_8.out.under hb)
  have Xd_9 := Lib.hid (Xd_8.out.under hb)
  have Xp_9 := Lib.hid (Xp_8.out.under hb)
  have Xq_9 := Lib.hid (Xq_8.out.under hb)
  have Xx_9 := Lib.hid (Xx_8.out.under hb)
  have HB_9 := Lib.hid (HB_8.out.trans (hb.mono HB_8.out.size))
  clear hb
  obtain ⟨c0, c1, c2, c3, c4, c5⟩ := Xp_9.out.box
  obtain ⟨d0, d1, d2, d3, d4, d5⟩ := Xq_9.out.box
  go_wp2_with fail
  clear c0 c1 c2 c3 c4 c5 d0 d1 d2 d3 d4 d5
  with_reducible refine (same_at HFp.out HFq.out _ Xp_9.out.row Xq_9.out.row).mono ?_
  rintro e w10 ⟨rfl, hb⟩
  have Xf_10 := Lib.hid (Xf_9.out.under hb)
  have Xa_10 := Lib.hid (Xa_9.out.under hb)
  have Xb_10 := Lib.hid (Xb_9.out.under hb)
  have Xc_10 := Lib.hid (Xc_9.out.under hb)
  have Xd_10 := Lib.hid (Xd_9.out.under hb)
  have Xp_10 := Lib.hid (Xp_9.out.under hb)
  have Xq_10 := Lib.hid (Xq_9.out.under hb)
  have Xx_10 := Lib.hid (Xx_9.out.under hb)
  have HB_10 := Lib.hid (HB_9.out.trans (hb.mono HB_9.out.size))
  clear hb
  go_wp2_with fail
  refine (awake5 _).mono ?_
  rintro e w11 ⟨rfl, hb⟩
  have HB11 := Lib.hid (HB_10.out.trans (hb.mono HB_10.out.size))
  clear hb
  go_wp2_with fail
  go_ret
  exact ⟨rfl, HB11.out⟩

end Go.Proofs.Ytenfhjmaljleoaa
