/- The walk of ConvolutionAlgebra. By the verifier's side. -/
import Derived.Test.YtladmpoopfabdaaConEG
import Derived.Test.YtladmpoopfabdaaConW
import Derived.Test.YtladmpoopfabdaaCurveNormalW
import Derived.Test.YtladmpoopfabdaaKeepC
namespace Go.Proofs.Ytladmpoopfabdaa
open Go.RowKit
set_option linter.unusedSimpArgs false
set_option linter.unusedVariables false

theorem rnormal_at (a : Option Addr) (n cap : Nat) (zs : List Int) (p : Nat) (inc : Int) (g : Good zs p inc) (w : World) (h : RowZ w a n cap zs) :
    Calls Try.prog 35 #[curV a n cap p inc] w (GivesOk (eC zs p inc) w) := by
  refine (rnormal_ok a n cap zs p inc g w h).mono ?_
  rintro e v ⟨a', n', cap', zs', p', inc', rfl, hb, hr, hn, hx⟩
  exact ⟨a', n', cap', zs', p', inc', rfl, hb, hr, hn.eform g, hx⟩

theorem conv_z {zs ys : List Int} {p q : Nat} {inc jnc : Int} (h : EForm ys q jnc (eC [0, 4611686018427387904] 1 0)) : eConv zs p inc ys q jnc = eC zs p inc := by
  unfold eConv
  rw [funext h.val]
  exact conv_w0 zs p inc
theorem day_w0 {ys : List Int} {q : Nat} {jnc : Int} (h : EForm ys q jnc (eC [0, 4611686018427387904] 1 0)) : Day (eC ys q jnc) := by
  rw [funext h.val]
  exact day_none (s := 1) w0_at
theorem conv_asc {zf zg zh za zc : List Int} {pf pg ph pa pc : Nat} {jf jg jh ja jc : Int} (h1 : EForm za pa ja (eConv zf pf jf zg pg jg)) (h2 : EForm zc pc jc (eConv zg pg jg zh ph jh)) : eConv za pa ja zh ph jh = eConv zf pf jf zc pc jc := by
  unfold eConv at h1 h2 ⊢
  rw [funext h1.val, funext h2.val]
  exact oconv_assoc _ _ _

set_option maxRecDepth 100000 in
set_option maxHeartbeats 6400000 in
theorem convolutionAlgebra_walk (W : World) (a : Option Addr) (n cap : Nat) (hrow : RowAt W a n cap) :
    Calls Try.prog 5 #[.slice a n cap] W fun e w' => e = .returned (.bool true) ∧ Below W.heap.size W w' := by
  have HR := Lib.hid hrow
  clear hrow
  go_enter Try.func5, Try.ntmps5
  go_wp2_with fail
  refine (new_any a n cap _ HR.out).mono ?_
  rintro e u1 ⟨rfl, hb1, hz1, ra, rn, rc, hs1⟩
  have HB1 := Lib.hid hb1
  have HS1 := Lib.hid hs1
  have Z1 := Lib.hid hz1
  clear hb1 hz1 hs1
  go_wp2_with fail
  refine (curve_any 4 (by omega) (by omega) _ ra rn rc _ HS1.out).mono ?_
  rintro e u2 ⟨af, nf, capf, zf, pf, jf, rfl, hs2, he2, hr2, ok2, hx2⟩
  have OF := Lib.hid ok2
  have HS2 := Lib.hid hs2
  have R2 := Lib.hid hr2
  have X2 := Lib.hid (show ∀ x, af = some x → ¬ x.block = W.heap.size from fun x hx => by have := hx2 x hx; have := Z1.out; omega)
  have HB2 := Lib.hid (HB1.out.trans (he2.below (Nat.le_refl _) HB1.out.size))
  clear hs2 he2 hr2 ok2 hx2
  go_wp2_with fail
  refine (curve_any 4 (by omega) (by omega) _ ra rn rc _ HS2.out).mono ?_
  rintro e u3 ⟨ag, ng, capg, zg, pg, jg, rfl, hs3, he3, hr3, ok3, hx3⟩
  have OG := Lib.hid ok3
  have HS3 := Lib.hid hs3
  have R3 := Lib.hid hr3
  have R23 := Lib.hid (R2.out.apart he3 X2.out)
  have h9 : W.heap.size < u2.heap.size := lt_of_cell (src_cell HS2.out)
  have X3 := Lib.hid (show ∀ x, ag = some x → ¬ x.block = W.heap.size from fun x hx => by have := hx3 x hx; omega)
  have HB3 := Lib.hid (HB2.out.trans (he3.below (Nat.le_refl _) HB2.out.size))
  clear hs3 he3 hr3 ok3 hx3 h9
  go_wp2_with fail
  refine (curve_any 4 (by omega) (by omega) _ ra rn rc _ HS3.out).mono ?_
  rintro e u4 ⟨ad, nd, capd, zd, pd, jd, rfl, hs4, he4, hr4, ok4, hx4⟩
  have OD := Lib.hid ok4
  have HS4 := Lib.hid hs4
  have R4 := Lib.hid hr4
  have R34 := Lib.hid (R3.out.apart he4 X3.out)
  have R24 := Lib.hid (R23.out.apart he4 X2.out)
  have HB4 := Lib.hid (HB3.out.trans (he4.below (Nat.le_refl _) HB3.out.size))
  clear hs4 he4 hr4 ok4 hx4
  obtain ⟨w0, hw⟩ : ∃ W, ((u4.alloc (.cells #[.slice af nf capf, .int .i64 pf, .int .i64 jf] 24)).alloc (.cells #[.slice ag ng capg, .int .i64 pg, .int .i64 jg] 24)).alloc (.cells #[.slice ad nd capd, .int .i64 pd, .int .i64 jd] 24) = W := ⟨_, rfl⟩
  have hz : Below u4.heap.size u4 w0 := by rw [← hw]; exact ((below_box _).alloc (by simp) _).alloc (by simp; omega) _
  have Xf := Lib.hid (show Bx w0 u4.heap.size af nf capf pf jf zf by rw [← hw]; exact ((Bx.new R24.out).under (below_box _)).under (below_box _))
  have Xg := Lib.hid (show Bx w0 (u4.heap.size + 1) ag ng capg pg jg zg by
    rw [← hw]
    have := (Bx.new (p := pg) (inc := jg) (R34.out.alloc (.cells #[.slice af nf capf, .int .i64 pf, .int .i64 jf] 24))).under (below_box (.cells #[.slice ad nd capd, .int .i64 pd, .int .i64 jd] 24))
    rwa [show (u4.alloc (.cells #[.slice af nf capf, .int .i64 pf, .int .i64 jf] 24)).heap.size = u4.heap.size + 1 by simp] at this)
  have Xd := Lib.hid (show Bx w0 (u4.heap.size + 2) ad nd capd pd jd zd by
    rw [← hw]
    have := Bx.new (p := pd) (inc := jd) ((R4.out.alloc (.cells #[.slice af nf capf, .int .i64 pf, .int .i64 jf] 24)).alloc (.cells #[.slice ag ng capg, .int .i64 pg, .int .i64 jg] 24))
    rwa [show ((u4.alloc (.cells #[.slice af nf capf, .int .i64 pf, .int .i64 jf] 24)).alloc (.cells #[.slice ag ng capg, .int .i64 pg, .int .i64 jg] 24)).heap.size = u4.heap.size + 2 by simp] at this)
  have HB5 := Lib.hid (HB4.out.trans (hz.mono HB4.out.size))
  have SR0 := Lib.hid (src_under HS4.out hz)
  have SW := Lib.hid (show W.heap.size < u4.heap.size ∧ u4.heap.size + 3 ≤ w0.heap.size from ⟨lt_of_cell (src_cell HS4.out), by rw [← hw]; simp⟩)
  have DF := Lib.hid (show Day (eC zf pf jf) ∧ Day (eC zg pg jg) ∧ Day (eC zd pd jd) from ⟨(drawn_nice OF.out (by omega)).day, (drawn_nice OG.out (by omega)).day, (drawn_nice OD.out (by omega)).day⟩)
  have hw0 := hw
  clear hw hz
  have GF := Lib.hid (And.intro OF.out.good (And.intro OG.out.good OD.out.good))
  by_cases hA : ECan (eConv zf pf jf zg pg jg)
  · have HA := Lib.hid hA
    clear hA
    obtain ⟨c0, c1, c2, c3, c4, c5⟩ := Xf.out.box
    obtain ⟨d0, d1, d2, d3, d4, d5⟩ := Xg.out.box
    go_wp2_with fail
    try rw [hw0]
    clear hw0
    clear c0 c1 c2 c3 c4 c5 d0 d1 d2 d3 d4 d5
    with_reducible refine ((cof_day af nf capf zf pf jf GF.out.1 ag ng capg zg pg jg GF.out.2.1 DF.out.1 DF.out.2.1 _ Xf.out.row Xg.out.row).mono fun _ _ h => h.ok HA.out).mono ?_
    rintro e v1 ⟨a1, n1, cap1, z1, p1, i1, rfl, hb, hr, hf, hx⟩
    obtain ⟨w1, hw⟩ : ∃ W, v1.alloc (.cells #[.slice a1 n1 cap1, .int .i64 p1, .int .i64 i1] 24) = W := ⟨_, rfl⟩
    have hz : Below w0.heap.size w0 w1 := by rw [← hw]; exact hb.trans ((below_box _).mono hb.size)
    have Xf_1 := Lib.hid (Xf.out.under hz)
    have Xg_1 := Lib.hid (Xg.out.under hz)
    have Xh_1 := Lib.hid (Xd.out.under hz)
    have HB_1 := Lib.hid (HB5.out.trans (hz.mono HB5.out.size))
    have Xa_1 := Lib.hid (show Bx w1 v1.heap.size a1 n1 cap1 p1 i1 z1 by rw [← hw]; exact Bx.new hr)
    have HFa := Lib.hid hf
    have hw1 := hw
    clear hb hr hf hx hz hw
    have HA2 := Lib.hid (show ECan (eConv zg pg jg zf pf jf) by rw [eConv_comm]; exact HA.out)
    obtain ⟨c0, c1, c2, c3, c4, c5⟩ := Xg_1.out.box
    obtain ⟨d0, d1, d2, d3, d4, d5⟩ := Xf_1.out.box
    go_wp2_with fail
    try rw [hw1]
    clear hw1
    clear c0 c1 c2 c3 c4 c5 d0 d1 d2 d3 d4 d5
    with_reducible refine ((cof_day ag ng capg zg pg jg GF.out.2.1 af nf capf zf pf jf GF.out.1 DF.out.2.1 DF.out.1 _ Xg_1.out.row Xf_1.out.row).mono fun _ _ h => h.ok HA2.out).mono ?_
    rintro e v2 ⟨a2, n2, cap2, z2, p2, i2, rfl, hb, hr, hf, hx⟩
    obtain ⟨w2, hw⟩ : ∃ W, v2.alloc (.cells #[.slice a2 n2 cap2, .int .i64 p2, .int .i64 i2] 24) = W := ⟨_, rfl⟩
    have hz : Below w1.heap.size w1 w2 := by rw [← hw]; exact hb.trans ((below_box _).mono hb.size)
    have Xf_2 := Lib.hid (Xf_1.out.under hz)
    have Xg_2 := Lib.hid (Xg_1.out.under hz)
    have Xh_2 := Lib.hid (Xh_1.out.under hz)
    have Xa_2 := Lib.hid (Xa_1.out.under hz)
    have HB_2 := Lib.hid (HB_1.out.trans (hz.mono HB_1.out.size))
    have Xb_2 := Lib.hid (show Bx w2 v2.heap.size a2 n2 cap2 p2 i2 z2 by rw [← hw]; exact Bx.new hr)
    have HFb := Lib.hid hf
    have hw2 := hw
    clear hb hr hf hx hz hw
    have HFb2 := Lib.hid (show EForm z2 p2 i2 (eConv zf pf jf zg pg jg) by rw [eConv_comm]; exact HFb.out)
    obtain ⟨c0, c1, c2, c3, c4, c5⟩ := Xa_2.out.box
    obtain ⟨d0, d1, d2, d3, d4, d5⟩ := Xb_2.out.box
    go_wp2_with fail
    try rw [hw2]
    clear hw2
    clear c0 c1 c2 c3 c4 c5 d0 d1 d2 d3 d4 d5
    with_reducible refine (same_at HFa.out HFb2.out _ Xa_2.out.row Xb_2.out.row).mono ?_
    rintro e w3 ⟨rfl, hb⟩
    have Xf_3 := Lib.hid (Xf_2.out.under hb)
    have Xg_3 := Lib.hid (Xg_2.out.under hb)
    have Xh_3 := Lib.hid (Xh_2.out.under hb)
    have Xa_3 := Lib.hid (Xa_2.out.under hb)
    have Xb_3 := Lib.hid (Xb_2.out.under hb)
    have HB_3 := Lib.hid (HB_2.out.trans (hb.mono HB_2.out.size))
    have SY3 := Lib.hid hb.size
    clear hb
    go_wp2_with fail
    with_reducible refine (rwait0 _).mono ?_
    rintro e v4 ⟨a4, n4, cap4, z4, p4, i4, rfl, hb, hr, hf, hx⟩
    obtain ⟨w4, hw⟩ : ∃ W, v4.alloc (.cells #[.slice a4 n4 cap4, .int .i64 p4, .int .i64 i4] 24) = W := ⟨_, rfl⟩
    have hz : Below w3.heap.size w3 w4 := by rw [← hw]; exact hb.trans ((below_box _).mono hb.size)
    have Xf_4 := Lib.hid (Xf_3.out.under hz)
    have Xg_4 := Lib.hid (Xg_3.out.under hz)
    have Xh_4 := Lib.hid (Xh_3.out.under hz)
    have Xa_4 := Lib.hid (Xa_3.out.under hz)
    have Xb_4 := Lib.hid (Xb_3.out.under hz)
    have HB_4 := Lib.hid (HB_3.out.trans (hz.mono HB_3.out.size))
    have Xw_4 := Lib.hid (show Bx w4 v4.heap.size a4 n4 cap4 p4 i4 z4 by rw [← hw]; exact Bx.new hr)
    have HFw := Lib.hid hf
    have hw4 := hw
    clear hb hr hf hx hz hw
    obtain ⟨c0, c1, c2, c3, c4, c5⟩ := Xf_4.out.box
    go_wp2_with fail
    try rw [hw4]
    clear hw4
    clear c0 c1 c2 c3 c4 c5
    with_reducible refine (rnormal_at af nf capf zf pf jf GF.out.1 _ Xf_4.out.row).mono ?_
    rintro e v5 ⟨a5, n5, cap5, z5, p5, i5, rfl, hb, hr, hf, hx⟩
    obtain ⟨w5, hw⟩ : ∃ W, v5.alloc (.cells #[.slice a5 n5 cap5, .int .i64 p5, .int .i64 i5] 24) = W := ⟨_, rfl⟩
    have hz : Below w4.heap.size w4 w5 := by rw [← hw]; exact hb.trans ((below_box _).mono hb.size)
    have Xf_5 := Lib.hid (Xf_4.out.under hz)
    have Xg_5 := Lib.hid (Xg_4.out.under hz)
    have Xh_5 := Lib.hid (Xh_4.out.under hz)
    have Xa_5 := Lib.hid (Xa_4.out.under hz)
    have Xb_5 := Lib.hid (Xb_4.out.under hz)
    have Xw_5 := Lib.hid (Xw_4.out.under hz)
    have HB_5 := Lib.hid (HB_4.out.trans (hz.mono HB_4.out.size))
    have Xn_5 := Lib.hid (show Bx w5 v5.heap.size a5 n5 cap5 p5 i5 z5 by rw [← hw]; exact Bx.new hr)
    have HFn := Lib.hid hf
    have hw5 := hw
    clear hb hr hf hx hz hw
    have CZ := Lib.hid (show ECan (eConv zf pf jf z4 p4 i4) by rw [conv_z HFw.out]; exact self_can GF.out.1)
    obtain ⟨c0, c1, c2, c3, c4, c5⟩ := Xf_5.out.box
    obtain ⟨d0, d1, d2, d3, d4, d5⟩ := Xw_5.out.box
    go_wp2_with fail
    try rw [hw5]
    clear hw5
    clear c0 c1 c2 c3 c4 c5 d0 d1 d2 d3 d4 d5
    with_reducible refine ((cof_day af nf capf zf pf jf GF.out.1 a4 n4 cap4 z4 p4 i4 HFw.out.good DF.out.1 (day_w0 HFw.out) _ Xf_5.out.row Xw_5.out.row).mono fun _ _ h => h.ok CZ.out).mono ?_
    rintro e v6 ⟨a6, n6, cap6, z6, p6, i6, rfl, hb, hr, hf, hx⟩
    obtain ⟨w6, hw⟩ : ∃ W, v6.alloc (.cells #[.slice a6 n6 cap6, .int .i64 p6, .int .i64 i6] 24) = W := ⟨_, rfl⟩
    have hz : Below w5.heap.size w5 w6 := by rw [← hw]; exact hb.trans ((below_box _).mono hb.size)
    have Xf_6 := Lib.hid (Xf_5.out.under hz)
    have Xg_6 := Lib.hid (Xg_5.out.under hz)
    have Xh_6 := Lib.hid (Xh_5.out.under hz)
    have Xa_6 := Lib.hid (Xa_5.out.under hz)
    have Xb_6 := Lib.hid (Xb_5.out.under hz)
    have Xw_6 := Lib.hid (Xw_5.out.under hz)
    have Xn_6 := Lib.hid (Xn_5.out.under hz)
    have HB_6 := Lib.hid (HB_5.out.trans (hz.mono HB_5.out.size))
    have Xz_6 := Lib.hid (show Bx w6 v6.heap.size a6 n6 cap6 p6 i6 z6 by rw [← hw]; exact Bx.new hr)
    have HFz := Lib.hid hf
    have hw6 := hw
    clear hb hr hf hx hz hw
    have HFz2 := Lib.hid (show EForm z6 p6 i6 (eC zf pf jf) from conv_z HFw.out ▸ HFz.out)
    obtain ⟨c0, c1, c2, c3, c4, c5⟩ := Xz_6.out.box
    obtain ⟨d0, d1, d2, d3, d4, d5⟩ := Xn_6.out.box
    go_wp2_with fail
    try rw [hw6]
    clear hw6
    clear c0 c1 c2 c3 c4 c5 d0 d1 d2 d3 d4 d5
    with_reducible refine (same_at HFz2.out HFn.out _ Xz_6.out.row Xn_6.out.row).mono ?_
    rintro e w7 ⟨rfl, hb⟩
    have Xf_7 := Lib.hid (Xf_6.out.under hb)
    have Xg_7 := Lib.hid (Xg_6.out.under hb)
    have Xh_7 := Lib.hid (Xh_6.out.under hb)
    have Xa_7 := Lib.hid (Xa_6.out.under hb)
    have Xb_7 := Lib.hid (Xb_6.out.under hb)
    have Xw_7 := Lib.hid (Xw_6.out.under hb)
    have Xn_7 := Lib.hid (Xn_6.out.under hb)
    have Xz_7 := Lib.hid (Xz_6.out.under hb)
    have HB_7 := Lib.hid (HB_6.out.trans (hb.mono HB_6.out.size))
    have SY7 := Lib.hid hb.size
    clear hb
    by_cases hB : ECan (eConv zg pg jg zd pd jd)
    · have HBC := Lib.hid hB
      clear hB
      obtain ⟨c0, c1, c2, c3, c4, c5⟩ := Xg_7.out.box
      obtain ⟨d0, d1, d2, d3, d4, d5⟩ := Xh_7.out.box
      go_wp2_with fail
      clear c0 c1 c2 c3 c4 c5 d0 d1 d2 d3 d4 d5
      with_reducible refine ((cof_day ag ng capg zg pg jg GF.out.2.1 ad nd capd zd pd jd GF.out.2.2 DF.out.2.1 DF.out.2.2 _ Xg_7.out.row Xh_7.out.row).mono fun _ _ h => h.ok HBC.out).mono ?_
      rintro e v8 ⟨a8, n8, cap8, z8, p8, i8, rfl, hb, hr, hf, hx⟩
      obtain ⟨w8, hw⟩ : ∃ W, v8.alloc (.cells #[.slice a8 n8 cap8, .int .i64 p8, .int .i64 i8] 24) = W := ⟨_, rfl⟩
      have hz : Below w7.heap.size w7 w8 := by rw [← hw]; exact hb.trans ((below_box _).mono hb.size)
      have Xf_8 := Lib.hid (Xf_7.out.under hz)
      have Xg_8 := Lib.hid (Xg_7.out.under hz)
      have Xh_8 := Lib.hid (Xh_7.out.under hz)
      have Xa_8 := Lib.hid (Xa_7.out.under hz)
      have Xb_8 := Lib.hid (Xb_7.out.under hz)
      have Xw_8 := Lib.hid (Xw_7.out.under hz)
      have Xn_8 := Lib.hid (Xn_7.out.under hz)
      have Xz_8 := Lib.hid (Xz_7.out.under hz)
      have HB_8 := Lib.hid (HB_7.out.trans (hz.mono HB_7.out.size))
      have Xc_8 := Lib.hid (show Bx w8 v8.heap.size a8 n8 cap8 p8 i8 z8 by rw [← hw]; exact Bx.new hr)
      have HFc := Lib.hid hf
      have hw8 := hw
      clear hb hr hf hx hz hw
      have DA := Lib.hid (show Day (eC z1 p1 i1) from (conv_day GF.out.1 GF.out.2.1 DF.out.1 DF.out.2.1).of HFa.out.val)
      have DC := Lib.hid (show Day (eC z8 p8 i8) from (conv_day GF.out.2.1 GF.out.2.2 DF.out.2.1 DF.out.2.2).of HFc.out.val)
      have EQ := Lib.hid (conv_asc HFa.out HFc.out)
      by_cases hC : ECan (eConv z1 p1 i1 zd pd jd)
      · have HC := Lib.hid hC
        have HC2 := Lib.hid (show ECan (eConv zf pf jf z8 p8 i8) by rw [← EQ.out]; exact hC)
        clear hC
        obtain ⟨c0, c1, c2, c3, c4, c5⟩ := Xa_8.out.box
        obtain ⟨d0, d1, d2, d3, d4, d5⟩ := Xh_8.out.box
        go_wp2_with fail
        try rw [hw8]
        clear hw8
        clear c0 c1 c2 c3 c4 c5 d0 d1 d2 d3 d4 d5
        with_reducible refine ((cof_day a1 n1 cap1 z1 p1 i1 HFa.out.good ad nd capd zd pd jd GF.out.2.2 DA.out DF.out.2.2 _ Xa_8.out.row Xh_8.out.row).mono fun _ _ h => h.ok HC.out).mono ?_
        rintro e v9 ⟨a9, n9, cap9, z9, p9, i9, rfl, hb, hr, hf, hx⟩
        obtain ⟨w9, hw⟩ : ∃ W, v9.alloc (.cells #[.slice a9 n9 cap9, .int .i64 p9, .int .i64 i9] 24) = W := ⟨_, rfl⟩
        have hz : Below w8.heap.size w8 w9 := by rw [← hw]; exact hb.trans ((below_box _).mono hb.size)
        have Xf_9 := Lib.hid (Xf_8.out.under hz)
        have Xg_9 := Lib.hid (Xg_8.out.under hz)
        have Xh_9 := Lib.hid (Xh_8.out.under hz)
        have Xa_9 := Lib.hid (Xa_8.out.under hz)
        have Xb_9 := Lib.hid (Xb_8.out.under hz)
        have Xw_9 := Lib.hid (Xw_8.out.under hz)
        have Xn_9 := Lib.hid (Xn_8.out.under hz)
        have Xz_9 := Lib.hid (Xz_8.out.under hz)
        have Xc_9 := Lib.hid (Xc_8.out.under hz)
        have HB_9 := Lib.hid (HB_8.out.trans (hz.mono HB_8.out.size))
        have Xx_9 := Lib.hid (show Bx w9 v9.heap.size a9 n9 cap9 p9 i9 z9 by rw [← hw]; exact Bx.new hr)
        have HFx := Lib.hid hf
        have hw9 := hw
        clear hb hr hf hx hz hw
        obtain ⟨c0, c1, c2, c3, c4, c5⟩ := Xf_9.out.box
        obtain ⟨d0, d1, d2, d3, d4, d5⟩ := Xc_9.out.box
        go_wp2_with fail
        try rw [hw9]
        clear hw9
        clear c0 c1 c2 c3 c4 c5 d0 d1 d2 d3 d4 d5
        with_reducible refine ((cof_day af nf capf zf pf jf GF.out.1 a8 n8 cap8 z8 p8 i8 HFc.out.good DF.out.1 DC.out _ Xf_9.out.row Xc_9.out.row).mono fun _ _ h => h.ok HC2.out).mono ?_
        rintro e v10 ⟨a10, n10, cap10, z10, p10, i10, rfl, hb, hr, hf, hx⟩
        obtain ⟨w10, hw⟩ : ∃ W, v10.alloc (.cells #[.slice a10 n10 cap10, .int .i64 p10, .int .i64 i10] 24) = W := ⟨_, rfl⟩
        have hz : Below w9.heap.size w9 w10 := by rw [← hw]; exact hb.trans ((below_box _).mono hb.size)
        have Xf_10 := Lib.hid (Xf_9.out.under hz)
        have Xg_10 := Lib.hid (Xg_9.out.under hz)
        have Xh_10 := Lib.hid (Xh_9.out.under hz)
        have Xa_10 := Lib.hid (Xa_9.out.under hz)
        have Xb_10 := Lib.hid (Xb_9.out.under hz)
        have Xw_10 := Lib.hid (Xw_9.out.under hz)
        have Xn_10 := Lib.hid (Xn_9.out.under hz)
        have Xz_10 := Lib.hid (Xz_9.out.under hz)
        have Xc_10 := Lib.hid (Xc_9.out.under hz)
        have Xx_10 := Lib.hid (Xx_9.out.under hz)
        have HB_10 := Lib.hid (HB_9.out.trans (hz.mono HB_9.out.size))
        have Xy_10 := Lib.hid (show Bx w10 v10.heap.size a10 n10 cap10 p10 i10 z10 by rw [← hw]; exact Bx.new hr)
        have HFy := Lib.hid hf
        have hw10 := hw
        clear hb hr hf hx hz hw
        have HFy2 := Lib.hid (show EForm z10 p10 i10 (eConv z1 p1 i1 zd pd jd) by rw [EQ.out]; exact HFy.out)
        obtain ⟨c0, c1, c2, c3, c4, c5⟩ := Xx_10.out.box
        obtain ⟨d0, d1, d2, d3, d4, d5⟩ := Xy_10.out.box
        go_wp2_with fail
        try rw [hw10]
        clear hw10
        clear c0 c1 c2 c3 c4 c5 d0 d1 d2 d3 d4 d5
        with_reducible refine (same_at HFx.out HFy2.out _ Xx_10.out.row Xy_10.out.row).mono ?_
        rintro e w11 ⟨rfl, hb⟩
        have Xf_11 := Lib.hid (Xf_10.out.under hb)
        have Xg_11 := Lib.hid (Xg_10.out.under hb)
        have Xh_11 := Lib.hid (Xh_10.out.under hb)
        have Xa_11 := Lib.hid (Xa_10.out.under hb)
        have Xb_11 := Lib.hid (Xb_10.out.under hb)
        have Xw_11 := Lib.hid (Xw_10.out.under hb)
        have Xn_11 := Lib.hid (Xn_10.out.under hb)
        have Xz_11 := Lib.hid (Xz_10.out.under hb)
        have Xc_11 := Lib.hid (Xc_10.out.under hb)
        have Xx_11 := Lib.hid (Xx_10.out.under hb)
        have Xy_11 := Lib.hid (Xy_10.out.under hb)
        have HB_11 := Lib.hid (HB_10.out.trans (hb.mono HB_10.out.size))
        have SY11 := Lib.hid hb.size
        clear hb
        go_wp2_with fail
        with_reducible refine (awake7 _).mono ?_
        rintro e w12 ⟨rfl, hb⟩
        have HBZ := Lib.hid (HB_11.out.trans (hb.mono HB_11.out.size))
        clear hb
        go_wp2_with fail
        go_ret
        exact ⟨rfl, HBZ.out⟩
      · have HC := Lib.hid hC
        have HC2 := Lib.hid (show ¬ ECan (eConv zf pf jf z8 p8 i8) by rw [← EQ.out]; exact hC)
        clear hC
        obtain ⟨c0, c1, c2, c3, c4, c5⟩ := Xa_8.out.box
        obtain ⟨d0, d1, d2, d3, d4, d5⟩ := Xh_8.out.box
        go_wp2_with fail
        try rw [hw8]
        clear hw8
        clear c0 c1 c2 c3 c4 c5 d0 d1 d2 d3 d4 d5
        with_reducible refine ((cof_day a1 n1 cap1 z1 p1 i1 HFa.out.good ad nd capd zd pd jd GF.out.2.2 DA.out DF.out.2.2 _ Xa_8.out.row Xh_8.out.row).mono fun _ _ h => h.no HC.out).mono ?_
        rintro e v9 ⟨rfl, hb⟩
        obtain ⟨w9, hw⟩ : ∃ W, v9.alloc (.cells #[.slice none 0 0, .int .i64 0, .int .i64 0] 24) = W := ⟨_, rfl⟩
        have hz : Below w8.heap.size w8 w9 := by rw [← hw]; exact hb.trans ((below_box _).mono hb.size)
        have Xf_9 := Lib.hid (Xf_8.out.under hz)
        have Xg_9 := Lib.hid (Xg_8.out.under hz)
        have Xh_9 := Lib.hid (Xh_8.out.under hz)
        have Xa_9 := Lib.hid (Xa_8.out.under hz)
        have Xb_9 := Lib.hid (Xb_8.out.under hz)
        have Xw_9 := Lib.hid (Xw_8.out.under hz)
        have Xn_9 := Lib.hid (Xn_8.out.under hz)
        have Xz_9 := Lib.hid (Xz_8.out.under hz)
        have Xc_9 := Lib.hid (Xc_8.out.under hz)
        have HB_9 := Lib.hid (HB_8.out.trans (hz.mono HB_8.out.size))
        have Xx_9 := Lib.hid (show Bx w9 v9.heap.size none 0 0 ((0 : Nat)) 0 [] by rw [← hw]; exact Bx.new (rowZ_none _))
        have HWK9 := Lib.hid hw
        clear hb hz hw
        obtain ⟨c0, c1, c2, c3, c4, c5⟩ := Xf_9.out.box
        obtain ⟨d0, d1, d2, d3, d4, d5⟩ := Xc_9.out.box
        go_upto_region 16 with fail
        try rw [HWK9.out]
        go_wp2_with fail
        clear c0 c1 c2 c3 c4 c5 d0 d1 d2 d3 d4 d5
        with_reducible refine ((cof_day af nf capf zf pf jf GF.out.1 a8 n8 cap8 z8 p8 i8 HFc.out.good DF.out.1 DC.out _ Xf_9.out.row Xc_9.out.row).mono fun _ _ h => h.no HC2.out).mono ?_
        rintro e v10 ⟨rfl, hb⟩
        obtain ⟨w10, hw⟩ : ∃ W, v10.alloc (.cells #[.slice none 0 0, .int .i64 0, .int .i64 0] 24) = W := ⟨_, rfl⟩
        have hz : Below w9.heap.size w9 w10 := by rw [← hw]; exact hb.trans ((below_box _).mono hb.size)
        have Xf_10 := Lib.hid (Xf_9.out.under hz)
        have Xg_10 := Lib.hid (Xg_9.out.under hz)
        have Xh_10 := Lib.hid (Xh_9.out.under hz)
        have Xa_10 := Lib.hid (Xa_9.out.under hz)
        have Xb_10 := Lib.hid (Xb_9.out.under hz)
        have Xw_10 := Lib.hid (Xw_9.out.under hz)
        have Xn_10 := Lib.hid (Xn_9.out.under hz)
        have Xz_10 := Lib.hid (Xz_9.out.under hz)
        have Xc_10 := Lib.hid (Xc_9.out.under hz)
        have Xx_10 := Lib.hid (Xx_9.out.under hz)
        have HB_10 := Lib.hid (HB_9.out.trans (hz.mono HB_9.out.size))
        have Xy_10 := Lib.hid (show Bx w10 v10.heap.size none 0 0 ((0 : Nat)) 0 [] by rw [← hw]; exact Bx.new (rowZ_none _))
        have HWK10 := Lib.hid hw
        clear hb hz hw
        go_upto_region 17 with fail
        try rw [HWK10.out]
        go_wp2_with fail
        with_reducible refine (awake7 _).mono ?_
        rintro e w11 ⟨rfl, hb⟩
        have HBZ := Lib.hid (HB_10.out.trans (hb.mono HB_10.out.size))
        clear hb
        go_wp2_with fail
        go_ret
        exact ⟨rfl, HBZ.out⟩
    · have HBC := Lib.hid hB
      clear hB
      obtain ⟨c0, c1, c2, c3, c4, c5⟩ := Xg_7.out.box
      obtain ⟨d0, d1, d2, d3, d4, d5⟩ := Xh_7.out.box
      go_wp2_with fail
      clear c0 c1 c2 c3 c4 c5 d0 d1 d2 d3 d4 d5
      with_reducible refine ((cof_day ag ng capg zg pg jg GF.out.2.1 ad nd capd zd pd jd GF.out.2.2 DF.out.2.1 DF.out.2.2 _ Xg_7.out.row Xh_7.out.row).mono fun _ _ h => h.no HBC.out).mono ?_
      rintro e v8 ⟨rfl, hb⟩
      obtain ⟨w8, hw⟩ : ∃ W, v8.alloc (.cells #[.slice none 0 0, .int .i64 0, .int .i64 0] 24) = W := ⟨_, rfl⟩
      have hz : Below w7.heap.size w7 w8 := by rw [← hw]; exact hb.trans ((below_box _).mono hb.size)
      have Xf_8 := Lib.hid (Xf_7.out.under hz)
      have Xg_8 := Lib.hid (Xg_7.out.under hz)
      have Xh_8 := Lib.hid (Xh_7.out.under hz)
      have Xa_8 := Lib.hid (Xa_7.out.under hz)
      have Xb_8 := Lib.hid (Xb_7.out.under hz)
      have Xw_8 := Lib.hid (Xw_7.out.under hz)
      have Xn_8 := Lib.hid (Xn_7.out.under hz)
      have Xz_8 := Lib.hid (Xz_7.out.under hz)
      have HB_8 := Lib.hid (HB_7.out.trans (hz.mono HB_7.out.size))
      have Xc_8 := Lib.hid (show Bx w8 v8.heap.size none 0 0 ((0 : Nat)) 0 [] by rw [← hw]; exact Bx.new (rowZ_none _))
      have HWK8 := Lib.hid hw
      clear hb hz hw
      go_upto_region 13 with fail
      try rw [HWK8.out]
      go_wp2_with fail
      with_reducible refine (awake7 _).mono ?_
      rintro e w9 ⟨rfl, hb⟩
      have HBZ := Lib.hid (HB_8.out.trans (hb.mono HB_8.out.size))
      clear hb
      go_wp2_with fail
      go_ret
      exact ⟨rfl, HBZ.out⟩
  · have HA := Lib.hid hA
    clear hA
    obtain ⟨c0, c1, c2, c3, c4, c5⟩ := Xf.out.box
    obtain ⟨d0, d1, d2, d3, d4, d5⟩ := Xg.out.box
    go_wp2_with fail
    try rw [hw0]
    clear hw0
    clear c0 c1 c2 c3 c4 c5 d0 d1 d2 d3 d4 d5
    with_reducible refine ((cof_day af nf capf zf pf jf GF.out.1 ag ng capg zg pg jg GF.out.2.1 DF.out.1 DF.out.2.1 _ Xf.out.row Xg.out.row).mono fun _ _ h => h.no HA.out).mono ?_
    rintro e v1 ⟨rfl, hb⟩
    obtain ⟨w1, hw⟩ : ∃ W, v1.alloc (.cells #[.slice none 0 0, .int .i64 0, .int .i64 0] 24) = W := ⟨_, rfl⟩
    have hz : Below w0.heap.size w0 w1 := by rw [← hw]; exact hb.trans ((below_box _).mono hb.size)
    have Xf_1 := Lib.hid (Xf.out.under hz)
    have Xg_1 := Lib.hid (Xg.out.under hz)
    have Xh_1 := Lib.hid (Xd.out.under hz)
    have HB_1 := Lib.hid (HB5.out.trans (hz.mono HB5.out.size))
    have Xa_1 := Lib.hid (show Bx w1 v1.heap.size none 0 0 ((0 : Nat)) 0 [] by rw [← hw]; exact Bx.new (rowZ_none _))
    have HWK1 := Lib.hid hw
    clear hb hz hw
    have HA2 := Lib.hid (show ¬ ECan (eConv zg pg jg zf pf jf) by rw [eConv_comm]; exact HA.out)
    obtain ⟨c0, c1, c2, c3, c4, c5⟩ := Xg_1.out.box
    obtain ⟨d0, d1, d2, d3, d4, d5⟩ := Xf_1.out.box
    go_upto_region 4 with fail
    try rw [HWK1.out]
    go_wp2_with fail
    clear c0 c1 c2 c3 c4 c5 d0 d1 d2 d3 d4 d5
    with_reducible refine ((cof_day ag ng capg zg pg jg GF.out.2.1 af nf capf zf pf jf GF.out.1 DF.out.2.1 DF.out.1 _ Xg_1.out.row Xf_1.out.row).mono fun _ _ h => h.no HA2.out).mono ?_
    rintro e v2 ⟨rfl, hb⟩
    obtain ⟨w2, hw⟩ : ∃ W, v2.alloc (.cells #[.slice none 0 0, .int .i64 0, .int .i64 0] 24) = W := ⟨_, rfl⟩
    have hz : Below w1.heap.size w1 w2 := by rw [← hw]; exact hb.trans ((below_box _).mono hb.size)
    have Xf_2 := Lib.hid (Xf_1.out.under hz)
    have Xg_2 := Lib.hid (Xg_1.out.under hz)
    have Xh_2 := Lib.hid (Xh_1.out.under hz)
    have Xa_2 := Lib.hid (Xa_1.out.under hz)
    have HB_2 := Lib.hid (HB_1.out.trans (hz.mono HB_1.out.size))
    have Xb_2 := Lib.hid (show Bx w2 v2.heap.size none 0 0 ((0 : Nat)) 0 [] by rw [← hw]; exact Bx.new (rowZ_none _))
    have HWK2 := Lib.hid hw
    clear hb hz hw
    have SZ := Lib.hid (show sameB [] 0 0 [] 0 0 = true from rfl)
    obtain ⟨c0, c1, c2, c3, c4, c5⟩ := Xa_2.out.box
    obtain ⟨d0, d1, d2, d3, d4, d5⟩ := Xb_2.out.box
    go_upto_region 5 with fail
    try rw [HWK2.out]
    go_wp2_with fail
    clear c0 c1 c2 c3 c4 c5 d0 d1 d2 d3 d4 d5
    with_reducible refine (rsame_any none 0 0 [] 0 0 none 0 0 [] 0 0 true SZ.out _ (rowZ_none _) (rowZ_none _)).mono ?_
    rintro e w3 ⟨rfl, hb⟩
    have Xf_3 := Lib.hid (Xf_2.out.under hb)
    have Xg_3 := Lib.hid (Xg_2.out.under hb)
    have Xh_3 := Lib.hid (Xh_2.out.under hb)
    have Xa_3 := Lib.hid (Xa_2.out.under hb)
    have Xb_3 := Lib.hid (Xb_2.out.under hb)
    have HB_3 := Lib.hid (HB_2.out.trans (hb.mono HB_2.out.size))
    have SY3 := Lib.hid hb.size
    clear hb
    go_wp2_with fail
    with_reducible refine (rwait0 _).mono ?_
    rintro e v4 ⟨a4, n4, cap4, z4, p4, i4, rfl, hb, hr, hf, hx⟩
    obtain ⟨w4, hw⟩ : ∃ W, v4.alloc (.cells #[.slice a4 n4 cap4, .int .i64 p4, .int .i64 i4] 24) = W := ⟨_, rfl⟩
    have hz : Below w3.heap.size w3 w4 := by rw [← hw]; exact hb.trans ((below_box _).mono hb.size)
    have Xf_4 := Lib.hid (Xf_3.out.under hz)
    have Xg_4 := Lib.hid (Xg_3.out.under hz)
    have Xh_4 := Lib.hid (Xh_3.out.under hz)
    have Xa_4 := Lib.hid (Xa_3.out.under hz)
    have Xb_4 := Lib.hid (Xb_3.out.under hz)
    have HB_4 := Lib.hid (HB_3.out.trans (hz.mono HB_3.out.size))
    have Xw_4 := Lib.hid (show Bx w4 v4.heap.size a4 n4 cap4 p4 i4 z4 by rw [← hw]; exact Bx.new hr)
    have HFw := Lib.hid hf
    have hw4 := hw
    clear hb hr hf hx hz hw
    obtain ⟨c0, c1, c2, c3, c4, c5⟩ := Xf_4.out.box
    go_wp2_with fail
    try rw [hw4]
    clear hw4
    clear c0 c1 c2 c3 c4 c5
    with_reducible refine (rnormal_at af nf capf zf pf jf GF.out.1 _ Xf_4.out.row).mono ?_
    rintro e v5 ⟨a5, n5, cap5, z5, p5, i5, rfl, hb, hr, hf, hx⟩
    obtain ⟨w5, hw⟩ : ∃ W, v5.alloc (.cells #[.slice a5 n5 cap5, .int .i64 p5, .int .i64 i5] 24) = W := ⟨_, rfl⟩
    have hz : Below w4.heap.size w4 w5 := by rw [← hw]; exact hb.trans ((below_box _).mono hb.size)
    have Xf_5 := Lib.hid (Xf_4.out.under hz)
    have Xg_5 := Lib.hid (Xg_4.out.under hz)
    have Xh_5 := Lib.hid (Xh_4.out.under hz)
    have Xa_5 := Lib.hid (Xa_4.out.under hz)
    have Xb_5 := Lib.hid (Xb_4.out.under hz)
    have Xw_5 := Lib.hid (Xw_4.out.under hz)
    have HB_5 := Lib.hid (HB_4.out.trans (hz.mono HB_4.out.size))
    have Xn_5 := Lib.hid (show Bx w5 v5.heap.size a5 n5 cap5 p5 i5 z5 by rw [← hw]; exact Bx.new hr)
    have HFn := Lib.hid hf
    have hw5 := hw
    clear hb hr hf hx hz hw
    have CZ := Lib.hid (show ECan (eConv zf pf jf z4 p4 i4) by rw [conv_z HFw.out]; exact self_can GF.out.1)
    obtain ⟨c0, c1, c2, c3, c4, c5⟩ := Xf_5.out.box
    obtain ⟨d0, d1, d2, d3, d4, d5⟩ := Xw_5.out.box
    go_wp2_with fail
    try rw [hw5]
    clear hw5
    clear c0 c1 c2 c3 c4 c5 d0 d1 d2 d3 d4 d5
    with_reducible refine ((cof_day af nf capf zf pf jf GF.out.1 a4 n4 cap4 z4 p4 i4 HFw.out.good DF.out.1 (day_w0 HFw.out) _ Xf_5.out.row Xw_5.out.row).mono fun _ _ h => h.ok CZ.out).mono ?_
    rintro e v6 ⟨a6, n6, cap6, z6, p6, i6, rfl, hb, hr, hf, hx⟩
    obtain ⟨w6, hw⟩ : ∃ W, v6.alloc (.cells #[.slice a6 n6 cap6, .int .i64 p6, .int .i64 i6] 24) = W := ⟨_, rfl⟩
    have hz : Below w5.heap.size w5 w6 := by rw [← hw]; exact hb.trans ((below_box _).mono hb.size)
    have Xf_6 := Lib.hid (Xf_5.out.under hz)
    have Xg_6 := Lib.hid (Xg_5.out.under hz)
    have Xh_6 := Lib.hid (Xh_5.out.under hz)
    have Xa_6 := Lib.hid (Xa_5.out.under hz)
    have Xb_6 := Lib.hid (Xb_5.out.under hz)
    have Xw_6 := Lib.hid (Xw_5.out.under hz)
    have Xn_6 := Lib.hid (Xn_5.out.under hz)
    have HB_6 := Lib.hid (HB_5.out.trans (hz.mono HB_5.out.size))
    have Xz_6 := Lib.hid (show Bx w6 v6.heap.size a6 n6 cap6 p6 i6 z6 by rw [← hw]; exact Bx.new hr)
    have HFz := Lib.hid hf
    have hw6 := hw
    clear hb hr hf hx hz hw
    have HFz2 := Lib.hid (show EForm z6 p6 i6 (eC zf pf jf) from conv_z HFw.out ▸ HFz.out)
    obtain ⟨c0, c1, c2, c3, c4, c5⟩ := Xz_6.out.box
    obtain ⟨d0, d1, d2, d3, d4, d5⟩ := Xn_6.out.box
    go_wp2_with fail
    try rw [hw6]
    clear hw6
    clear c0 c1 c2 c3 c4 c5 d0 d1 d2 d3 d4 d5
    with_reducible refine (same_at HFz2.out HFn.out _ Xz_6.out.row Xn_6.out.row).mono ?_
    rintro e w7 ⟨rfl, hb⟩
    have Xf_7 := Lib.hid (Xf_6.out.under hb)
    have Xg_7 := Lib.hid (Xg_6.out.under hb)
    have Xh_7 := Lib.hid (Xh_6.out.under hb)
    have Xa_7 := Lib.hid (Xa_6.out.under hb)
    have Xb_7 := Lib.hid (Xb_6.out.under hb)
    have Xw_7 := Lib.hid (Xw_6.out.under hb)
    have Xn_7 := Lib.hid (Xn_6.out.under hb)
    have Xz_7 := Lib.hid (Xz_6.out.under hb)
    have HB_7 := Lib.hid (HB_6.out.trans (hb.mono HB_6.out.size))
    have SY7 := Lib.hid hb.size
    clear hb
    by_cases hB : ECan (eConv zg pg jg zd pd jd)
    · have HBC := Lib.hid hB
      clear hB
      obtain ⟨c0, c1, c2, c3, c4, c5⟩ := Xg_7.out.box
      obtain ⟨d0, d1, d2, d3, d4, d5⟩ := Xh_7.out.box
      go_wp2_with fail
      clear c0 c1 c2 c3 c4 c5 d0 d1 d2 d3 d4 d5
      with_reducible refine ((cof_day ag ng capg zg pg jg GF.out.2.1 ad nd capd zd pd jd GF.out.2.2 DF.out.2.1 DF.out.2.2 _ Xg_7.out.row Xh_7.out.row).mono fun _ _ h => h.ok HBC.out).mono ?_
      rintro e v8 ⟨a8, n8, cap8, z8, p8, i8, rfl, hb, hr, hf, hx⟩
      obtain ⟨w8, hw⟩ : ∃ W, v8.alloc (.cells #[.slice a8 n8 cap8, .int .i64 p8, .int .i64 i8] 24) = W := ⟨_, rfl⟩
      have hz : Below w7.heap.size w7 w8 := by rw [← hw]; exact hb.trans ((below_box _).mono hb.size)
      have Xf_8 := Lib.hid (Xf_7.out.under hz)
      have Xg_8 := Lib.hid (Xg_7.out.under hz)
      have Xh_8 := Lib.hid (Xh_7.out.under hz)
      have Xa_8 := Lib.hid (Xa_7.out.under hz)
      have Xb_8 := Lib.hid (Xb_7.out.under hz)
      have Xw_8 := Lib.hid (Xw_7.out.under hz)
      have Xn_8 := Lib.hid (Xn_7.out.under hz)
      have Xz_8 := Lib.hid (Xz_7.out.under hz)
      have HB_8 := Lib.hid (HB_7.out.trans (hz.mono HB_7.out.size))
      have Xc_8 := Lib.hid (show Bx w8 v8.heap.size a8 n8 cap8 p8 i8 z8 by rw [← hw]; exact Bx.new hr)
      have HFc := Lib.hid hf
      have hw8 := hw
      clear hb hr hf hx hz hw
      go_wp2_with fail
      try rw [hw8]
      clear hw8
      with_reducible refine (awake7 _).mono ?_
      rintro e w9 ⟨rfl, hb⟩
      have HBZ := Lib.hid (HB_8.out.trans (hb.mono HB_8.out.size))
      clear hb
      go_wp2_with fail
      go_ret
      exact ⟨rfl, HBZ.out⟩
    · have HBC := Lib.hid hB
      clear hB
      obtain ⟨c0, c1, c2, c3, c4, c5⟩ := Xg_7.out.box
      obtain ⟨d0, d1, d2, d3, d4, d5⟩ := Xh_7.out.box
      go_wp2_with fail
      clear c0 c1 c2 c3 c4 c5 d0 d1 d2 d3 d4 d5
      with_reducible refine ((cof_day ag ng capg zg pg jg GF.out.2.1 ad nd capd zd pd jd GF.out.2.2 DF.out.2.1 DF.out.2.2 _ Xg_7.out.row Xh_7.out.row).mono fun _ _ h => h.no HBC.out).mono ?_
      rintro e v8 ⟨rfl, hb⟩
      obtain ⟨w8, hw⟩ : ∃ W, v8.alloc (.cells #[.slice none 0 0, .int .i64 0, .int .i64 0] 24) = W := ⟨_, rfl⟩
      have hz : Below w7.heap.size w7 w8 := by rw [← hw]; exact hb.trans ((below_box _).mono hb.size)
      have Xf_8 := Lib.hid (Xf_7.out.under hz)
      have Xg_8 := Lib.hid (Xg_7.out.under hz)
      have Xh_8 := Lib.hid (Xh_7.out.under hz)
      have Xa_8 := Lib.hid (Xa_7.out.under hz)
      have Xb_8 := Lib.hid (Xb_7.out.under hz)
      have Xw_8 := Lib.hid (Xw_7.out.under hz)
      have Xn_8 := Lib.hid (Xn_7.out.under hz)
      have Xz_8 := Lib.hid (Xz_7.out.under hz)
      have HB_8 := Lib.hid (HB_7.out.trans (hz.mono HB_7.out.size))
      have Xc_8 := Lib.hid (show Bx w8 v8.heap.size none 0 0 ((0 : Nat)) 0 [] by rw [← hw]; exact Bx.new (rowZ_none _))
      have HWK8 := Lib.hid hw
      clear hb hz hw
      go_upto_region 13 with fail
      try rw [HWK8.out]
      go_wp2_with fail
      with_reducible refine (awake7 _).mono ?_
      rintro e w9 ⟨rfl, hb⟩
      have HBZ := Lib.hid (HB_8.out.trans (hb.mono HB_8.out.size))
      clear hb
      go_wp2_with fail
      go_ret
      exact ⟨rfl, HBZ.out⟩

end Go.Proofs.Ytladmpoopfabdaa
