/- The walk of PointwiseMonotone. By the verifier's side. -/
import Derived.Test.YtenfhjmaljleoaaJPwT
namespace Go.Proofs.Ytenfhjmaljleoaa
open Go.RowKit
set_option linter.unusedSimpArgs false

set_option maxRecDepth 100000 in
set_option maxHeartbeats 6400000 in
theorem pointwiseMonotone_walk (W : World) (a : Option Addr) (n cap : Nat) (hrow : RowAt W a n cap) :
    Calls Try.prog 14 #[.slice a n cap] W fun e w' => e = .returned (.bool true) ∧ Below W.heap.size W w' := by
  have HR := Lib.hid hrow
  clear hrow
  go_enter Try.func14, Try.ntmps14
  go_wp2_with fail
  refine (new_any a n cap _ HR.out).mono ?_
  rintro e u1 ⟨rfl, hb1, hz1, ra, rn, rc, hs1⟩
  have HB1 := Lib.hid hb1
  have HS1 := Lib.hid hs1
  have Z1 := Lib.hid hz1
  clear hb1 hz1 hs1
  go_wp2_with fail
  refine (curve_any 5 (by omega) (by omega) _ ra rn rc _ HS1.out).mono ?_
  rintro e u2 ⟨af, nf, capf, zf, pf, jf, rfl, hs2, he2, hr2, ok2, hx2⟩
  have OF := Lib.hid ok2
  have HS2 := Lib.hid hs2
  have R2 := Lib.hid hr2
  have X2 := Lib.hid (show ∀ x, af = some x → ¬ x.block = W.heap.size from fun x hx => by have := hx2 x hx; have := Z1.out; omega)
  have HB2 := Lib.hid (HB1.out.trans (he2.below (Nat.le_refl _) HB1.out.size))
  clear hs2 he2 hr2 ok2 hx2
  go_wp2_with fail
  refine (curve_any 5 (by omega) (by omega) _ ra rn rc _ HS2.out).mono ?_
  rintro e u3 ⟨ag, ng, capg, zg, pg, jg, rfl, hs3, he3, hr3, ok3, hx3⟩
  have OG := Lib.hid ok3
  have HS3 := Lib.hid hs3
  have R3 := Lib.hid hr3
  have R23 := Lib.hid (R2.out.apart he3 X2.out)
  have h9 : W.heap.size < u2.heap.size := lt_of_cell (src_cell HS2.out)
  have X3 := Lib.hid (show ∀ x, ag = some x → ¬ x.block = W.heap.size from fun x hx => by have := hx3 x hx; omega)
  have HB3 := Lib.hid (HB2.out.trans (he3.below (Nat.le_refl _) HB2.out.size))
  clear hs3 he3 hr3 ok3 hx3 h9
  go_wp2_with fail
  refine (curve_any 3 (by omega) (by omega) _ ra rn rc _ HS3.out).mono ?_
  rintro e u4 ⟨ad, nd, capd, zd, pd, jd, rfl, hs4, he4, hr4, ok4, hx4⟩
  have OD := Lib.hid ok4
  have HS4 := Lib.hid hs4
  have R4 := Lib.hid hr4
  have R34 := Lib.hid (R3.out.apart he4 X3.out)
  have R24 := Lib.hid (R23.out.apart he4 X2.out)
  have HB4 := Lib.hid (HB3.out.trans (he4.below (Nat.le_refl _) HB3.out.size))
  clear hs4 he4 hr4 ok4 hx4
  obtain ⟨w0, hw⟩ : ∃ W, ((u4.alloc (.cells #[.slice af nf capf, .int .i64 pf, .int .i64 jf] 51)).alloc (.cells #[.slice ag ng capg, .int .i64 pg, .int .i64 jg] 51)).alloc (.cells #[.slice ad nd capd, .int .i64 pd, .int .i64 jd] 51) = W := ⟨_, rfl⟩
  have hz : Below u4.heap.size u4 w0 := by rw [← hw]; exact ((below_box _).alloc (by simp) _).alloc (by simp; omega) _
  have Xf := Lib.hid (show Bx w0 u4.heap.size af nf capf pf jf zf by rw [← hw]; exact ((Bx.new R24.out).under (below_box _)).under (below_box _))
  have Xg := Lib.hid (show Bx w0 (u4.heap.size + 1) ag ng capg pg jg zg by
    rw [← hw]
    have := (Bx.new (p := pg) (inc := jg) (R34.out.alloc (.cells #[.slice af nf capf, .int .i64 pf, .int .i64 jf] 51))).under (below_box (.cells #[.slice ad nd capd, .int .i64 pd, .int .i64 jd] 51))
    rwa [show (u4.alloc (.cells #[.slice af nf capf, .int .i64 pf, .int .i64 jf] 51)).heap.size = u4.heap.size + 1 by simp] at this)
  have Xd := Lib.hid (show Bx w0 (u4.heap.size + 2) ad nd capd pd jd zd by
    rw [← hw]
    have := Bx.new (p := pd) (inc := jd) ((R4.out.alloc (.cells #[.slice af nf capf, .int .i64 pf, .int .i64 jf] 51)).alloc (.cells #[.slice ag ng capg, .int .i64 pg, .int .i64 jg] 51))
    rwa [show ((u4.alloc (.cells #[.slice af nf capf, .int .i64 pf, .int .i64 jf] 51)).alloc (.cells #[.slice ag ng capg, .int .i64 pg, .int .i64 jg] 51)).heap.size = u4.heap.size + 2 by simp] at this)
  have HB5 := Lib.hid (HB4.out.trans (hz.mono HB4.out.size))
  have SR0 := Lib.hid (src_under HS4.out hz)
  have SW := Lib.hid (show W.heap.size < u4.heap.size ∧ u4.heap.size + 3 ≤ w0.heap.size from ⟨lt_of_cell (src_cell HS4.out), by rw [← hw]; simp⟩)
  have NM := Lib.hid (show Nice 20000 (eSum zf pf jf zd pd jd) from (drawn_nice OF.out (by omega)).sum (drawn_nice OD.out (by omega)))
  have LM := Lib.hid (show Low (eSum zf pf jf zd pd jd) from (drawn_low OF.out (by omega)).sum (drawn_low OD.out (by omega)) (drawn_nice OF.out (by omega)) (drawn_nice OD.out (by omega)) (fun t x hx => (eC_bd OF.out.good hx).1) (fun t x hx => (eC_bd OD.out.good hx).1))
  have DF := Lib.hid (show Day (eC zf pf jf) ∧ Day (eC zg pg jg) ∧ Day (eC zd pd jd) from ⟨(drawn_nice OF.out (by omega)).day, (drawn_nice OG.out (by omega)).day, (drawn_nice OD.out (by omega)).day⟩)
  have hw0 := hw
  clear hw hz
  obtain ⟨c0, c1, c2, c3, c4, c5⟩ := Xf.out.box
  obtain ⟨d0, d1, d2, d3, d4, d5⟩ := Xd.out.box
  go_wp2_with fail
  try rw [hw0]
  clear hw0
  clear c0 c1 c2 c3 c4 c5 d0 d1 d2 d3 d4 d5
  with_reducible refine (((sum_day af nf capf zf pf jf OF.out.good ad nd capd zd pd jd OD.out.good DF.out.1 DF.out.2.2 _ Xf.out.row Xd.out.row).mono fun _ _ h => h.ok (NM.out.can (by omega)))).mono ?_
  rintro e v1 ⟨a1, n1, cap1, z1, p1, i1, rfl, hb, hr, hf, hx⟩
  obtain ⟨w1, hw⟩ : ∃ W, v1.alloc (.cells #[.slice a1 n1 cap1, .int .i64 p1, .int .i64 i1] 51) = W := ⟨_, rfl⟩
  have hz : Below w0.heap.size w0 w1 := by rw [← hw]; exact hb.trans ((below_box _).mono hb.size)
  have Xf_1 := Lib.hid (Xf.out.under hz)
  have Xg_1 := Lib.hid (Xg.out.under hz)
  have Xd_1 := Lib.hid (Xd.out.under hz)
  have HB_1 := Lib.hid (HB5.out.trans (hz.mono HB5.out.size))
  have Xm_1 := Lib.hid (show Bx w1 v1.heap.size a1 n1 cap1 p1 i1 z1 by rw [← hw]; exact Bx.new hr)
  have HFm := Lib.hid hf
  have hw1 := hw
  have SR1 := Lib.hid (src_under SR0.out hz)
  have SZ1 := Lib.hid (show v1.heap.size < w1.heap.size ∧ w0.heap.size ≤ v1.heap.size from ⟨by rw [← hw]; simp, hb.size⟩)
  have FX1 := Lib.hid (show ∀ x, a1 = some x → ¬ x.block = W.heap.size from fun x hx2 => by have := hx x hx2; have := SW.out; omega)
  have DM := Lib.hid (NM.out.day.of hf.val)
  clear hb hr hf hx hz hw
  go_wp2_with fail
  try rw [hw1]
  clear hw1
  refine (n_any 20 (by omega) (by omega) _ ra rn rc _ SR1.out).mono ?_
  rintro e w5 ⟨r1, ⟨r10, r11⟩, rfl, hs5, he5⟩
  obtain ⟨kn, rfl⟩ := Int.eq_ofNat_of_zero_le r10
  have hn20 : kn < 20 := by omega
  have SWS := Lib.hid (show w1.heap.size ≤ w5.heap.size from Nat.le_of_eq he5.size.symm)
  have Yf := Lib.hid (Xf_1.out.apart he5.apart (by have := SW.out; omega) X2.out)
  have Yg := Lib.hid (Xg_1.out.apart he5.apart (by have := SW.out; omega) X3.out)
  have Ym := Lib.hid (Xm_1.out.apart he5.apart (by have := SW.out; have := SZ1.out; omega) FX1.out)
  have HB6 := Lib.hid (HB_1.out.trans (he5.below (Nat.le_refl _)))
  clear hs5 he5 r10 r11
  obtain ⟨c0, c1, c2, c3, c4, c5⟩ := Yf.out.box
  obtain ⟨d0, d1, d2, d3, d4, d5⟩ := Yg.out.box
  go_wp2_with fail
  clear c0 c1 c2 c3 c4 c5 d0 d1 d2 d3 d4 d5
  with_reducible refine ((min_day af nf capf zf pf jf OF.out.good ag ng capg zg pg jg OG.out.good DF.out.1 DF.out.2.1 _ Yf.out.row Yg.out.row).mono fun _ _ h => h.mx).mono ?_
  rintro e v10 ⟨a10, n10, cap10, z10, p10, i10, c10, rfl, hb, hr, hm, hc, hx⟩
  obtain ⟨w10, hw⟩ : ∃ W, v10.alloc (.cells #[.slice a10 n10 cap10, .int .i64 p10, .int .i64 i10] 51) = W := ⟨_, rfl⟩
  have hz : Below w5.heap.size w5 w10 := by rw [← hw]; exact hb.trans ((below_box _).mono hb.size)
  have Xf_10 := Lib.hid (Yf.out.under hz)
  have Xg_10 := Lib.hid (Yg.out.under hz)
  have Xm_10 := Lib.hid (Ym.out.under hz)
  have HB_10 := Lib.hid (HB6.out.trans (hz.mono HB6.out.size))
  have Xa_10 := Lib.hid (show BxI w10 v10.heap.size a10 n10 cap10 p10 i10 z10 by rw [← hw]; exact BxI.new hr)
  have SZ10 := Lib.hid (show v10.heap.size < w10.heap.size ∧ w5.heap.size ≤ v10.heap.size from ⟨by rw [← hw]; simp, hb.size⟩)
  have HM10 := Lib.hid hm
  have HC10 := Lib.hid hc
  have hw10 := hw
  clear hb hr hm hc hx hz hw
  obtain ⟨c0, c1, c2, c3, c4, c5⟩ := Xm_10.out.box
  obtain ⟨d0, d1, d2, d3, d4, d5⟩ := Xg_10.out.box
  go_wp2_with fail
  try rw [hw10]
  clear hw10
  clear c0 c1 c2 c3 c4 c5 d0 d1 d2 d3 d4 d5
  with_reducible refine ((min_day a1 n1 cap1 z1 p1 i1 HFm.out.good ag ng capg zg pg jg OG.out.good DM.out DF.out.2.1 _ Xm_10.out.row Xg_10.out.row).mono fun _ _ h => h.mx).mono ?_
  rintro e v11 ⟨a11, n11, cap11, z11, p11, i11, c11, rfl, hb, hr, hm, hc, hx⟩
  obtain ⟨w11, hw⟩ : ∃ W, v11.alloc (.cells #[.slice a11 n11 cap11, .int .i64 p11, .int .i64 i11] 51) = W := ⟨_, rfl⟩
  have hz : Below w10.heap.size w10 w11 := by rw [← hw]; exact hb.trans ((below_box _).mono hb.size)
  have Xf_11 := Lib.hid (Xf_10.out.under hz)
  have Xg_11 := Lib.hid (Xg_10.out.under hz)
  have Xm_11 := Lib.hid (Xm_10.out.under hz)
  have Xa_11 := Lib.hid (Xa_10.out.under hz)
  have HB_11 := Lib.hid (HB_10.out.trans (hz.mono HB_10.out.size))
  have Xb_11 := Lib.hid (show BxI w11 v11.heap.size a11 n11 cap11 p11 i11 z11 by rw [← hw]; exact BxI.new hr)
  have SZ11 := Lib.hid (show v11.heap.size < w11.heap.size ∧ w10.heap.size ≤ v11.heap.size from ⟨by rw [← hw]; simp, hb.size⟩)
  have HM11 := Lib.hid hm
  have HFR11 := Lib.hid hx
  have HC11 := Lib.hid hc
  have hw11 := hw
  clear hb hr hm hc hx hz hw
  go_upto_region 9 with fail
  try rw [hw11]
  clear hw11
  go_cut [63] (fun s63 wx => s63 = .bool false ∧ Hid (Below w11.heap.size w11 wx))
  case first =>
    rcases HC10.out with rfl | rfl
    · rcases HC11.out with rfl | rfl
      · obtain ⟨q10, rfl, hf10⟩ := HM10.out.ok
        obtain ⟨q11, rfl, hf11⟩ := HM11.out.ok
        have HF10 := Lib.hid hf10
        have HF11 := Lib.hid hf11
        obtain ⟨c0, c1, c2, c3, c4, c5⟩ := Xa_11.out.box
        obtain ⟨d0, d1, d2, d3, d4, d5⟩ := Xb_11.out.box
        clear hf10 hf11
        go_wp2_with fail
        clear c0 c1 c2 c3 c4 c5 d0 d1 d2 d3 d4 d5
        with_reducible refine (most_at HF10.out HF11.out (fun t => by unfold eMin; exact ole_omin (ole_more OD.out.good HFm.out.val t) (ole_refl _)) _ Xa_11.out.row Xb_11.out.row).mono ?_
        rintro e y ⟨rfl, hb⟩
        have HBY := Lib.hid hb
        clear hb
        go_wp2_with fail
        go_meet
        exact ⟨rfl, HBY⟩
      · go_wp2_with fail
        go_meet
        exact ⟨rfl, Lib.hid (Below.refl _ _)⟩
    · go_wp2_with fail
      go_meet
      exact ⟨rfl, Lib.hid (Below.refl _ _)⟩
  case rest =>
    obtain ⟨rfl, GJ⟩ := hcut
    obtain ⟨w12, rfl⟩ : ∃ u : World, u = wc := ⟨_, rfl⟩
    have Xf_12 := Lib.hid (Xf_11.out.under GJ.out)
    have Xg_12 := Lib.hid (Xg_11.out.under GJ.out)
    have Xm_12 := Lib.hid (Xm_11.out.under GJ.out)
    have Xa_12 := Lib.hid (Xa_11.out.under GJ.out)
    have Xb_12 := Lib.hid (Xb_11.out.under GJ.out)
    have HB_12 := Lib.hid (HB_11.out.trans (GJ.out.mono HB_11.out.size))
    have SY12 := Lib.hid GJ.out.size
    have SH1 := Lib.hid (show W.heap.size < u4.heap.size ∧ w1.heap.size ≤ w5.heap.size from ⟨SW.out.1, SWS.out⟩)
    obtain ⟨c0, c1, c2, c3, c4, c5⟩ := Xf_12.out.box
    go_wp2_with fail
    clear c0 c1 c2 c3 c4 c5
    with_reducible refine (later_at af nf capf zf pf jf OF.out.good kn (by omega) (kn : Int) rfl rfl (mild_later (drawn_mild OF.out (by omega)) (by omega)) _ Xf_12.out.row).mono ?_
    rintro e v13 ⟨a13, n13, cap13, z13, p13, i13, rfl, hb, hr, hf, hx⟩
    have HFa := Lib.hid hf
    obtain ⟨w13, hw⟩ : ∃ W, (((v13.setCell ⟨v10.heap.size, 0, none⟩ (.slice a13 n13 cap13)).setCell ⟨v10.heap.size, 1, none⟩ (.int .i64 p13)).setCell ⟨v10.heap.size, 2, none⟩ (.int .i64 i13)) = W := ⟨_, rfl⟩
    have SZ13 := Lib.hid (show w13.heap.size = v13.heap.size ∧ w12.heap.size ≤ v13.heap.size from ⟨by rw [← hw]; simp [World.setCell], hb.size⟩)
    have HFR13 := Lib.hid hx
    have Xf_13 := Lib.hid (show Bx w13 u4.heap.size af nf capf pf jf zf by rw [← hw]; exact (Xf_12.out.under hb).set (by have q0 := SW.out; have q1 := SZ1.out; have q5 := SZ10.out; have q6 := SZ11.out; have q7 := SY12.out; have q8 := SH1.out; omega) (fun x hx2 hn => by have q9 := Yf.out.row.far x hx2 hn; have q0 := SW.out; have q1 := SZ1.out; have q5 := SZ10.out; have q6 := SZ11.out; have q7 := SY12.out; have q8 := SH1.out; omega) _ _ _)
    have Xm_13 := Lib.hid (show Bx w13 v1.heap.size a1 n1 cap1 p1 i1 z1 by rw [← hw]; exact (Xm_12.out.under hb).set (by have q0 := SW.out; have q1 := SZ1.out; have q5 := SZ10.out; have q6 := SZ11.out; have q7 := SY12.out; have q8 := SH1.out; omega) (fun x hx2 hn => by have q9 := Ym.out.row.far x hx2 hn; have q0 := SW.out; have q1 := SZ1.out; have q5 := SZ10.out; have q6 := SZ11.out; have q7 := SY12.out; have q8 := SH1.out; omega) _ _ _)
    have Xa_13 := Lib.hid (show Bx w13 v10.heap.size a13 n13 cap13 p13 i13 z13 by rw [← hw]; exact ((Xa_12.out.under hb).put hr (fun x hx2 hn => by have q9 := hx x hx2; have q0 := SW.out; have q1 := SZ1.out; have q5 := SZ10.out; have q6 := SZ11.out; have q7 := SY12.out; have q8 := SH1.out; omega)).nat)
    have Xb_13 := Lib.hid (show BxI w13 v11.heap.size a11 n11 cap11 p11 i11 z11 by rw [← hw]; exact (Xb_12.out.under hb).set (by have q0 := SW.out; have q1 := SZ1.out; have q5 := SZ10.out; have q6 := SZ11.out; have q7 := SY12.out; have q8 := SH1.out; omega) (fun x hx2 hn => by have q9 := HFR11.out x hx2; have q0 := SW.out; have q1 := SZ1.out; have q5 := SZ10.out; have q6 := SZ11.out; have q7 := SY12.out; have q8 := SH1.out; omega) _ _ _)
    have HB_13 := Lib.hid (show Below W.heap.size W w13 by rw [← hw]; exact below_set3 (HB_12.out.trans (hb.mono HB_12.out.size)) (by have q9 := HB6.out.size; have q0 := SW.out; have q1 := SZ1.out; have q5 := SZ10.out; have q6 := SZ11.out; have q7 := SY12.out; have q8 := SH1.out; omega) _ _ _)
    obtain ⟨h0, h1, h2, h3, h4, h5⟩ := (Xa_12.out.under hb).box
    have hw13 := hw
    clear hb hr hf hx hw
    obtain ⟨c0, c1, c2, c3, c4, c5⟩ := Xm_13.out.box
    go_wp2_with fail
    try rw [hw13]
    clear hw13
    clear c0 c1 c2 c3 c4 c5
    clear h0 h1 h2 h3 h4 h5
    with_reducible refine (later_at a1 n1 cap1 z1 p1 i1 HFm.out.good kn (by omega) (kn : Int) rfl rfl (mild_later (NM.out.mild (by omega) HFm.out) (by omega)) _ Xm_13.out.row).mono ?_
    rintro e v14 ⟨a14, n14, cap14, z14, p14, i14, rfl, hb, hr, hf, hx⟩
    have HFb := Lib.hid hf
    obtain ⟨w14, hw⟩ : ∃ W, (((v14.setCell ⟨v11.heap.size, 0, none⟩ (.slice a14 n14 cap14)).setCell ⟨v11.heap.size, 1, none⟩ (.int .i64 p14)).setCell ⟨v11.heap.size, 2, none⟩ (.int .i64 i14)) = W := ⟨_, rfl⟩
    have SZ14 := Lib.hid (show w14.heap.size = v14.heap.size ∧ w13.heap.size ≤ v14.heap.size from ⟨by rw [← hw]; simp [World.setCell], hb.size⟩)
    have HFR14 := Lib.hid hx
    have Xf_14 := Lib.hid (show Bx w14 u4.heap.size af nf capf pf jf zf by rw [← hw]; exact (Xf_13.out.under hb).set (by have q0 := SW.out; have q1 := SZ1.out; have q5 := SZ10.out; have q6 := SZ11.out; have q7 := SY12.out; have q8 := SH1.out; have q10 := SZ13.out; omega) (fun x hx2 hn => by have q9 := Yf.out.row.far x hx2 hn; have q0 := SW.out; have q1 := SZ1.out; have q5 := SZ10.out; have q6 := SZ11.out; have q7 := SY12.out; have q8 := SH1.out; omega) _ _ _)
    have Xm_14 := Lib.hid (show Bx w14 v1.heap.size a1 n1 cap1 p1 i1 z1 by rw [← hw]; exact (Xm_13.out.under hb).set (by have q0 := SW.out; have q1 := SZ1.out; have q5 := SZ10.out; have q6 := SZ11.out; have q7 := SY12.out; have q8 := SH1.out; have q10 := SZ13.out; omega) (fun x hx2 hn => by have q9 := Ym.out.row.far x hx2 hn; have q0 := SW.out; have q1 := SZ1.out; have q5 := SZ10.out; have q6 := SZ11.out; have q7 := SY12.out; have q8 := SH1.out; omega) _ _ _)
    have Xa_14 := Lib.hid (show Bx w14 v10.heap.size a13 n13 cap13 p13 i13 z13 by rw [← hw]; exact (Xa_13.out.under hb).set (by have q0 := SW.out; have q1 := SZ1.out; have q5 := SZ10.out; have q6 := SZ11.out; have q7 := SY12.out; have q8 := SH1.out; have q10 := SZ13.out; omega) (fun x hx2 hn => by have q9 := HFR13.out x hx2; have q0 := SW.out; have q1 := SZ1.out; have q5 := SZ10.out; have q6 := SZ11.out; have q7 := SY12.out; have q8 := SH1.out; omega) _ _ _)
    have Xb_14 := Lib.hid (show Bx w14 v11.heap.size a14 n14 cap14 p14 i14 z14 by rw [← hw]; exact ((Xb_13.out.under hb).put hr (fun x hx2 hn => by have q9 := hx x hx2; have q0 := SW.out; have q1 := SZ1.out; have q5 := SZ10.out; have q6 := SZ11.out; have q7 := SY12.out; have q8 := SH1.out; have q10 := SZ13.out; omega)).nat)
    have HB_14 := Lib.hid (show Below W.heap.size W w14 by rw [← hw]; exact below_set3 (HB_13.out.trans (hb.mono HB_13.out.size)) (by have q9 := HB6.out.size; have q0 := SW.out; have q1 := SZ1.out; have q5 := SZ10.out; have q6 := SZ11.out; have q7 := SY12.out; have q8 := SH1.out; have q10 := SZ13.out; omega) _ _ _)
    obtain ⟨h0, h1, h2, h3, h4, h5⟩ := (Xb_13.out.under hb).box
    have hw14 := hw
    clear hb hr hf hx hw
    obtain ⟨c0, c1, c2, c3, c4, c5⟩ := Xf_14.out.box
    go_wp2_with fail
    try rw [hw14]
    clear hw14
    clear c0 c1 c2 c3 c4 c5
    clear h0 h1 h2 h3 h4 h5
    with_reducible refine (lower_at af nf capf zf pf jf OF.out.good (kn : Int) (by omega) (by omega) rfl (mild_lower (drawn_mild OF.out (by omega)) (by omega) (by omega) (fun hf => drawn_low2 OF.out (by omega) hf)) _ Xf_14.out.row).mono ?_
    rintro e v15 ⟨a15, n15, cap15, z15, p15, i15, rfl, hb, hr, hf, hx⟩
    obtain ⟨w15, hw⟩ : ∃ W, v15.alloc (.cells #[.slice a15 n15 cap15, .int .i64 p15, .int .i64 i15] 51) = W := ⟨_, rfl⟩
    have hz : Below w14.heap.size w14 w15 := by rw [← hw]; exact hb.trans ((below_box _).mono hb.size)
    have Xf_15 := Lib.hid (Xf_14.out.under hz)
    have Xm_15 := Lib.hid (Xm_14.out.under hz)
    have Xa_15 := Lib.hid (Xa_14.out.under hz)
    have Xb_15 := Lib.hid (Xb_14.out.under hz)
    have HB_15 := Lib.hid (HB_14.out.trans (hz.mono HB_14.out.size))
    have Xc_15 := Lib.hid (show Bx w15 v15.heap.size a15 n15 cap15 p15 i15 z15 by rw [← hw]; exact Bx.new hr)
    have HFc := Lib.hid hf
    have hw15 := hw
    clear hb hr hf hx hz hw
    obtain ⟨c0, c1, c2, c3, c4, c5⟩ := Xm_15.out.box
    go_wp2_with fail
    try rw [hw15]
    clear hw15
    clear c0 c1 c2 c3 c4 c5
    with_reducible refine (lower_at a1 n1 cap1 z1 p1 i1 HFm.out.good (kn : Int) (by omega) (by omega) rfl (mild_lower (NM.out.mild (by omega) HFm.out) (by omega) (by omega) (fun hf => LM.out.form HFm.out hf)) _ Xm_15.out.row).mono ?_
    rintro e v16 ⟨a16, n16, cap16, z16, p16, i16, rfl, hb, hr, hf, hx⟩
    obtain ⟨w16, hw⟩ : ∃ W, v16.alloc (.cells #[.slice a16 n16 cap16, .int .i64 p16, .int .i64 i16] 51) = W := ⟨_, rfl⟩
    have hz : Below w15.heap.size w15 w16 := by rw [← hw]; exact hb.trans ((below_box _).mono hb.size)
    have Xf_16 := Lib.hid (Xf_15.out.under hz)
    have Xm_16 := Lib.hid (Xm_15.out.under hz)
    have Xa_16 := Lib.hid (Xa_15.out.under hz)
    have Xb_16 := Lib.hid (Xb_15.out.under hz)
    have Xc_16 := Lib.hid (Xc_15.out.under hz)
    have HB_16 := Lib.hid (HB_15.out.trans (hz.mono HB_15.out.size))
    have Xu_16 := Lib.hid (show Bx w16 v16.heap.size a16 n16 cap16 p16 i16 z16 by rw [← hw]; exact Bx.new hr)
    have HFu := Lib.hid hf
    have hw16 := hw
    clear hb hr hf hx hz hw
    obtain ⟨c0, c1, c2, c3, c4, c5⟩ := Xf_16.out.box
    go_wp2_with fail
    try rw [hw16]
    clear hw16
    clear c0 c1 c2 c3 c4 c5
    with_reducible refine (ahead_at af nf capf zf pf jf OF.out.good kn (by omega) (kn : Int) rfl rfl (mild_ahead (drawn_mild OF.out (by omega)) (by omega)) _ Xf_16.out.row).mono ?_
    rintro e v17 ⟨a17, n17, cap17, z17, p17, i17, rfl, hb, hr, hf, hx⟩
    obtain ⟨w17, hw⟩ : ∃ W, v17.alloc (.cells #[.slice a17 n17 cap17, .int .i64 p17, .int .i64 i17] 51) = W := ⟨_, rfl⟩
    have hz : Below w16.heap.size w16 w17 := by rw [← hw]; exact hb.trans ((below_box _).mono hb.size)
    have Xf_17 := Lib.hid (Xf_16.out.under hz)
    have Xm_17 := Lib.hid (Xm_16.out.under hz)
    have Xa_17 := Lib.hid (Xa_16.out.under hz)
    have Xb_17 := Lib.hid (Xb_16.out.under hz)
    have Xc_17 := Lib.hid (Xc_16.out.under hz)
    have Xu_17 := Lib.hid (Xu_16.out.under hz)
    have HB_17 := Lib.hid (HB_16.out.trans (hz.mono HB_16.out.size))
    have Xv_17 := Lib.hid (show Bx w17 v17.heap.size a17 n17 cap17 p17 i17 z17 by rw [← hw]; exact Bx.new hr)
    have HFv := Lib.hid hf
    have hw17 := hw
    clear hb hr hf hx hz hw
    obtain ⟨c0, c1, c2, c3, c4, c5⟩ := Xm_17.out.box
    go_wp2_with fail
    try rw [hw17]
    clear hw17
    clear c0 c1 c2 c3 c4 c5
    with_reducible refine (ahead_at a1 n1 cap1 z1 p1 i1 HFm.out.good kn (by omega) (kn : Int) rfl rfl (mild_ahead (NM.out.mild (by omega) HFm.out) (by omega)) _ Xm_17.out.row).mono ?_
    rintro e v18 ⟨a18, n18, cap18, z18, p18, i18, rfl, hb, hr, hf, hx⟩
    obtain ⟨w18, hw⟩ : ∃ W, v18.alloc (.cells #[.slice a18 n18 cap18, .int .i64 p18, .int .i64 i18] 51) = W := ⟨_, rfl⟩
    have hz : Below w17.heap.size w17 w18 := by rw [← hw]; exact hb.trans ((below_box _).mono hb.size)
    have Xf_18 := Lib.hid (Xf_17.out.under hz)
    have Xm_18 := Lib.hid (Xm_17.out.under hz)
    have Xa_18 := Lib.hid (Xa_17.out.under hz)
    have Xb_18 := Lib.hid (Xb_17.out.under hz)
    have Xc_18 := Lib.hid (Xc_17.out.under hz)
    have Xu_18 := Lib.hid (Xu_17.out.under hz)
    have Xv_18 := Lib.hid (Xv_17.out.under hz)
    have HB_18 := Lib.hid (HB_17.out.trans (hz.mono HB_17.out.size))
    have Xw_18 := Lib.hid (show Bx w18 v18.heap.size a18 n18 cap18 p18 i18 z18 by rw [← hw]; exact Bx.new hr)
    have HFw := Lib.hid hf
    have hw18 := hw
    clear hb hr hf hx hz hw
    obtain ⟨c0, c1, c2, c3, c4, c5⟩ := Xa_18.out.box
    obtain ⟨d0, d1, d2, d3, d4, d5⟩ := Xb_18.out.box
    go_wp2_with fail
    try rw [hw18]
    clear hw18
    clear c0 c1 c2 c3 c4 c5 d0 d1 d2 d3 d4 d5
    with_reducible refine (most_at HFa.out HFb.out (ole_later (ole_more OD.out.good HFm.out.val)) _ Xa_18.out.row Xb_18.out.row).mono ?_
    rintro e w19 ⟨rfl, hb⟩
    have Xf_19 := Lib.hid (Xf_18.out.under hb)
    have Xm_19 := Lib.hid (Xm_18.out.under hb)
    have Xa_19 := Lib.hid (Xa_18.out.under hb)
    have Xb_19 := Lib.hid (Xb_18.out.under hb)
    have Xc_19 := Lib.hid (Xc_18.out.under hb)
    have Xu_19 := Lib.hid (Xu_18.out.under hb)
    have Xv_19 := Lib.hid (Xv_18.out.under hb)
    have Xw_19 := Lib.hid (Xw_18.out.under hb)
    have HB_19 := Lib.hid (HB_18.out.trans (hb.mono HB_18.out.size))
    have SY19 := Lib.hid hb.size
    clear hb
    obtain ⟨c0, c1, c2, c3, c4, c5⟩ := Xc_19.out.box
    obtain ⟨d0, d1, d2, d3, d4, d5⟩ := Xu_19.out.box
    go_wp2_with fail
    clear c0 c1 c2 c3 c4 c5 d0 d1 d2 d3 d4 d5
    with_reducible refine (most_at HFc.out HFu.out (ole_lower (ole_more OD.out.good HFm.out.val)) _ Xc_19.out.row Xu_19.out.row).mono ?_
    rintro e w20 ⟨rfl, hb⟩
    have Xf_20 := Lib.hid (Xf_19.out.under hb)
    have Xm_20 := Lib.hid (Xm_19.out.under hb)
    have Xa_20 := Lib.hid (Xa_19.out.under hb)
    have Xb_20 := Lib.hid (Xb_19.out.under hb)
    have Xc_20 := Lib.hid (Xc_19.out.under hb)
    have Xu_20 := Lib.hid (Xu_19.out.under hb)
    have Xv_20 := Lib.hid (Xv_19.out.under hb)
    have Xw_20 := Lib.hid (Xw_19.out.under hb)
    have HB_20 := Lib.hid (HB_19.out.trans (hb.mono HB_19.out.size))
    have SY20 := Lib.hid hb.size
    clear hb
    obtain ⟨c0, c1, c2, c3, c4, c5⟩ := Xv_20.out.box
    obtain ⟨d0, d1, d2, d3, d4, d5⟩ := Xw_20.out.box
    go_wp2_with fail
    clear c0 c1 c2 c3 c4 c5 d0 d1 d2 d3 d4 d5
    with_reducible refine (most_at HFv.out HFw.out (ole_ahead (ole_more OD.out.good HFm.out.val)) _ Xv_20.out.row Xw_20.out.row).mono ?_
    rintro e w21 ⟨rfl, hb⟩
    have Xf_21 := Lib.hid (Xf_20.out.under hb)
    have Xm_21 := Lib.hid (Xm_20.out.under hb)
    have Xa_21 := Lib.hid (Xa_20.out.under hb)
    have Xb_21 := Lib.hid (Xb_20.out.under hb)
    have Xc_21 := Lib.hid (Xc_20.out.under hb)
    have Xu_21 := Lib.hid (Xu_20.out.under hb)
    have Xv_21 := Lib.hid (Xv_20.out.under hb)
    have Xw_21 := Lib.hid (Xw_20.out.under hb)
    have HB_21 := Lib.hid (HB_20.out.trans (hb.mono HB_20.out.size))
    have SY21 := Lib.hid hb.size
    clear hb
    go_wp2_with fail
    refine (awake5 _).mono ?_
    rintro e y ⟨rfl, hb⟩
    have HBZ := Lib.hid (HB_21.out.trans (hb.mono HB_21.out.size))
    clear hb
    go_wp2_with fail
    go_ret
    exact ⟨rfl, HBZ.out⟩

end Go.Proofs.Ytenfhjmaljleoaa
