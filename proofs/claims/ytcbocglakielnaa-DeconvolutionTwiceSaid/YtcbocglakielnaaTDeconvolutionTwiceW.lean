/- The walk of DeconvolutionTwice. By the verifier's side. -/
import Derived.Test.YtcbocglakielnaaTDecDDecEDecFDecHDecG
import Derived.Test.YtcbocglakielnaaTAdj
import Derived.Test.YtcbocglakielnaaTRCo5
namespace Go.Proofs.Ytcbocglakielnaa
open Go.RowKit
set_option linter.unusedSimpArgs false
set_option linter.unusedVariables false

set_option maxRecDepth 100000 in
set_option maxHeartbeats 6400000 in
theorem deconvolutionTwice_walk (W : World) (a : Option Addr) (n cap : Nat) (hrow : RowAt W a n cap) :
    Calls Try.prog 10 #[.slice a n cap] W fun e w' => e = .returned (.bool true) ∧ Below W.heap.size W w' := by
  have HR := Lib.hid hrow
  clear hrow
  go_enter Try.func10, Try.ntmps10
  go_wp2_with fail
  refine (new_any a n cap _ HR.out).mono ?_
  rintro e u1 ⟨rfl, hb1, hz1, ra, rn, rc, hs1⟩
  have HB1 := Lib.hid hb1
  have HS1 := Lib.hid hs1
  have Z1 := Lib.hid hz1
  clear hb1 hz1 hs1
  go_wp2_with fail
  refine (curve_any 4 (by omega) (by omega) _ ra rn rc _ HS1.out).mono ?_
  rintro e u2 ⟨af, nf, capf, zf, pf, jf, rfl, hs2, he2, hr2, ok2, hx2⟩
  have OF := Lib.hid (And.intro ok2.good (drawn_nice ok2 (by omega)).day)
  have HS2 := Lib.hid hs2
  have R2 := Lib.hid hr2
  have X2 := Lib.hid (show ∀ x, af = some x → ¬ x.block = W.heap.size from fun x hx => by have := hx2 x hx; have := Z1.out; omega)
  have HB2 := Lib.hid (HB1.out.trans (he2.below (Nat.le_refl _) HB1.out.size))
  clear hs2 he2 hr2 ok2 hx2
  go_wp2_with fail
  refine (second_any 4 (by omega) (by omega) _ ra rn rc _ HS2.out).mono ?_
  rintro e u3 ⟨ag, ng, capg, zg, pg, jg, rfl, hs3, he3, hr3, hg3, h03, hn3, hx3⟩
  have OG := Lib.hid (And.intro hg3 (And.intro hn3.day h03))
  have HS3 := Lib.hid hs3
  have R3 := Lib.hid (And.intro (R2.out.apart he3 X2.out) hr3)
  have h9 : W.heap.size < u2.heap.size := lt_of_cell (src_cell HS2.out)
  have X3 := Lib.hid (show ∀ x, ag = some x → ¬ x.block = W.heap.size from fun x hx => by have := hx3 x hx; omega)
  have HB3 := Lib.hid (HB2.out.trans (he3.below (Nat.le_refl _) HB2.out.size))
  clear hs3 he3 hr3 hg3 h03 hn3 hx3 h9
  go_wp2_with fail
  refine (second_any 3 (by omega) (by omega) _ ra rn rc _ HS3.out).mono ?_
  rintro e u4 ⟨ah, nh, caph, zh, ph, jh, rfl, hs4, he4, hr4, hg4, h04, hn4, hx4⟩
  have OH := Lib.hid (And.intro hg4 (And.intro hn4.day h04))
  have R4 := Lib.hid (And.intro (R3.out.1.apart he4 X2.out) (And.intro (R3.out.2.apart he4 X3.out) hr4))
  have HB4 := Lib.hid (HB3.out.trans (he4.below (Nat.le_refl _) HB3.out.size))
  clear hs4 he4 hr4 hg4 h04 hn4 hx4
  obtain ⟨w0, hw⟩ : ∃ w', ((u4.alloc (.cells #[.slice af nf capf, .int .i64 pf, .int .i64 jf] 24)).alloc (.cells #[.slice ag ng capg, .int .i64 pg, .int .i64 jg] 24)).alloc (.cells #[.slice ah nh caph, .int .i64 ph, .int .i64 jh] 24) = w' := ⟨_, rfl⟩
  have hz : Below u4.heap.size u4 w0 := by rw [← hw]; exact ((below_box _).alloc (by simp) _).alloc (by simp; omega) _
  have Xf := Lib.hid (show Bx w0 u4.heap.size af nf capf pf jf zf by rw [← hw]; exact ((Bx.new R4.out.1).under (below_box _)).under (below_box _))
  have Xg := Lib.hid (show Bx w0 (u4.heap.size + 1) ag ng capg pg jg zg by
    rw [← hw]
    have := (Bx.new (p := pg) (inc := jg) (R4.out.2.1.alloc (.cells #[.slice af nf capf, .int .i64 pf, .int .i64 jf] 24))).under (below_box (.cells #[.slice ah nh caph, .int .i64 ph, .int .i64 jh] 24))
    rwa [show (u4.alloc (.cells #[.slice af nf capf, .int .i64 pf, .int .i64 jf] 24)).heap.size = u4.heap.size + 1 by simp] at this)
  have Xh := Lib.hid (show Bx w0 (u4.heap.size + 1 + 1) ah nh caph ph jh zh by
    rw [← hw]
    have := Bx.new (p := ph) (inc := jh) ((R4.out.2.2.alloc (.cells #[.slice af nf capf, .int .i64 pf, .int .i64 jf] 24)).alloc (.cells #[.slice ag ng capg, .int .i64 pg, .int .i64 jg] 24))
    rwa [show ((u4.alloc (.cells #[.slice af nf capf, .int .i64 pf, .int .i64 jf] 24)).alloc (.cells #[.slice ag ng capg, .int .i64 pg, .int .i64 jg] 24)).heap.size = u4.heap.size + 1 + 1 by simp] at this)
  have HB5 := Lib.hid (HB4.out.trans (hz.mono HB4.out.size))
  have HW0 := Lib.hid hw
  clear hw hz HB1 HB2 HB3 HB4 HS1 HS2 HS3 R2 R3 R4 X2 X3
  go_upto_region 3 with fail
  try rw [HW0.out]
  clear HW0
  obtain ⟨c0, c1, c2, c3, c4, c5⟩ := Xf.out.box
  obtain ⟨d0, d1, d2, d3, d4, d5⟩ := Xg.out.box
  go_wp2_with fail
  clear c0 c1 c2 c3 c4 c5 d0 d1 d2 d3 d4 d5
  with_reducible refine (dof_day af nf capf zf pf jf OF.out.1 ag ng capg zg pg jg OG.out.1 OG.out.2.2 OF.out.2 OG.out.2.1 _ Xf.out.row Xg.out.row).mono ?_
  rintro e v1 ⟨hb, ⟨aa, na, capa, za, pa, ja, rfl, hr, hf, hx⟩ | ⟨rfl, hno⟩⟩
  rotate_left
  · have HBQ := Lib.hid (HB5.out.trans ((hb.trans ((below_box (.cells #[.slice none 0 0, .int .i64 0, .int .i64 0] 24)).mono hb.size)).mono HB5.out.size))
    clear hb hno
    go_wp2_with fail
    refine (awake8 _).mono ?_
    rintro e y9 ⟨rfl, hb⟩
    have HBZ := Lib.hid (HBQ.out.trans (hb.mono HBQ.out.size))
    clear hb
    go_wp2_with fail
    go_ret
    exact ⟨rfl, HBZ.out⟩
  obtain ⟨w1, hw⟩ : ∃ w', v1.alloc (.cells #[.slice aa na capa, .int .i64 pa, .int .i64 ja] 24) = w' := ⟨_, rfl⟩
  have hz : Below w0.heap.size w0 w1 := by rw [← hw]; exact hb.trans ((below_box _).mono hb.size)
  have OA := Lib.hid (And.intro hf ((dec_day OF.out.1 OG.out.1 OG.out.2.2 OF.out.2 OG.out.2.1).of hf.val))
  have Yf := Lib.hid (Xf.out.under hz)
  have Yg := Lib.hid (Xg.out.under hz)
  have Yh := Lib.hid (Xh.out.under hz)
  have Ya := Lib.hid (show Bx w1 v1.heap.size aa na capa pa ja za by rw [← hw]; exact Bx.new hr)
  have HB6 := Lib.hid (HB5.out.trans (hz.mono HB5.out.size))
  have HW1 := Lib.hid hw
  clear hb hr hf hx hz hw Xf Xg Xh HB5
  go_upto_region 4 with fail
  try rw [HW1.out]
  obtain ⟨c0, c1, c2, c3, c4, c5⟩ := Yf.out.box
  obtain ⟨d0, d1, d2, d3, d4, d5⟩ := Ya.out.box
  go_wp2_with fail
  clear c0 c1 c2 c3 c4 c5 d0 d1 d2 d3 d4 d5
  have HLE := Lib.hid (show ((true : Bool) = true ↔ ∀ t, ole (eC zf pf jf t) (eC za pa ja t)) from ⟨fun _ t => by rw [OA.out.1.val]; exact dec_self (eC_zero0 OG.out.1 OG.out.2.2) t, fun _ => rfl⟩)
  with_reducible refine (ratMost_says af nf capf zf pf jf OF.out.1 aa na capa za pa ja OA.out.1.good true HLE.out _ Yf.out.row Ya.out.row).mono ?_
  rintro e w2 ⟨rfl, hb⟩
  have Xf := Lib.hid (Yf.out.under hb)
  have Xg := Lib.hid (Yg.out.under hb)
  have Xh := Lib.hid (Yh.out.under hb)
  have Xa := Lib.hid (Ya.out.under hb)
  have HB7 := Lib.hid (HB6.out.trans (hb.mono HB6.out.size))
  clear hb Yf Yg Yh Ya HB6 HW1 HLE
  obtain ⟨c0, c1, c2, c3, c4, c5⟩ := Xa.out.box
  obtain ⟨d0, d1, d2, d3, d4, d5⟩ := Xh.out.box
  go_wp2_with fail
  clear c0 c1 c2 c3 c4 c5 d0 d1 d2 d3 d4 d5
  with_reducible refine (dof_day aa na capa za pa ja OA.out.1.good ah nh caph zh ph jh OH.out.1 OH.out.2.2 OA.out.2 OH.out.2.1 _ Xa.out.row Xh.out.row).mono ?_
  rintro e v3 ⟨hb, ⟨ab, nb, capb, zb, pb, jb, rfl, hr, hfb, hx⟩ | ⟨rfl, hno⟩⟩
  rotate_left
  · obtain ⟨w3, hw⟩ : ∃ w', v3.alloc (.cells #[.slice none 0 0, .int .i64 0, .int .i64 0] 24) = w' := ⟨_, rfl⟩
    have hz : Below w2.heap.size w2 w3 := by rw [← hw]; exact hb.trans ((below_box _).mono hb.size)
    have Yg := Lib.hid (Xg.out.under hz)
    have Yh := Lib.hid (Xh.out.under hz)
    have HB8 := Lib.hid (HB7.out.trans (hz.mono HB7.out.size))
    have HW3 := Lib.hid hw
    clear hb hno hz hw Xf Xg Xh Xa HB7
    go_upto_region 9 with fail
    try rw [HW3.out]
    obtain ⟨c0, c1, c2, c3, c4, c5⟩ := Yg.out.box
    obtain ⟨d0, d1, d2, d3, d4, d5⟩ := Yh.out.box
    go_wp2_with fail
    clear c0 c1 c2 c3 c4 c5 d0 d1 d2 d3 d4 d5
    with_reducible refine ((rof7_day ag ng capg zg pg jg OG.out.1 ah nh caph zh ph jh OH.out.1 OG.out.2.1 OH.out.2.1 _ Yg.out.row Yh.out.row).mono fun _ _ h => h.y).mono ?_
    rintro e v4 ⟨ac, nc, capc, zc, pc, jc, cc, rfl, hb, hr, hm, hc, hx⟩
    have HBQ := Lib.hid (HB8.out.trans ((hb.trans ((below_box (.cells #[.slice ac nc capc, .int .i64 pc, .int .i64 jc] 24)).mono hb.size)).mono HB8.out.size))
    clear hb hr hm hc hx
    go_wp2_with fail
    refine (awake8 _).mono ?_
    rintro e y9 ⟨rfl, hb⟩
    have HBZ := Lib.hid (HBQ.out.trans (hb.mono HBQ.out.size))
    clear hb
    go_wp2_with fail
    go_ret
    exact ⟨rfl, HBZ.out⟩
  obtain ⟨w3, hw⟩ : ∃ w', v3.alloc (.cells #[.slice ab nb capb, .int .i64 pb, .int .i64 jb] 24) = w' := ⟨_, rfl⟩
  have hz : Below w2.heap.size w2 w3 := by rw [← hw]; exact hb.trans ((below_box _).mono hb.size)
  have OB := Lib.hid hfb
  have Yf := Lib.hid (Xf.out.under hz)
  have Yg := Lib.hid (Xg.out.under hz)
  have Yh := Lib.hid (Xh.out.under hz)
  have Yb := Lib.hid (show Bx w3 v3.heap.size ab nb capb pb jb zb by rw [← hw]; exact Bx.new hr)
  have HB8 := Lib.hid (HB7.out.trans (hz.mono HB7.out.size))
  have HW3 := Lib.hid hw
  clear hb hr hfb hx hz hw Xf Xg Xh Xa HB7
  go_upto_region 9 with fail
  try rw [HW3.out]
  obtain ⟨c0, c1, c2, c3, c4, c5⟩ := Yg.out.box
  obtain ⟨d0, d1, d2, d3, d4, d5⟩ := Yh.out.box
  go_wp2_with fail
  clear c0 c1 c2 c3 c4 c5 d0 d1 d2 d3 d4 d5
  with_reducible refine (rof7_day ag ng capg zg pg jg OG.out.1 ah nh caph zh ph jh OH.out.1 OG.out.2.1 OH.out.2.1 _ Yg.out.row Yh.out.row).mono ?_
  rintro e v4 ⟨hb, ⟨ac, nc, capc, zc, pc, jc, rfl, hr, hfc, hx⟩ | ⟨rfl, hno⟩⟩
  rotate_left
  · have HBQ := Lib.hid (HB8.out.trans ((hb.trans ((below_box (.cells #[.slice none 0 0, .int .i64 0, .int .i64 0] 24)).mono hb.size)).mono HB8.out.size))
    clear hb hno
    go_wp2_with fail
    refine (awake8 _).mono ?_
    rintro e y9 ⟨rfl, hb⟩
    have HBZ := Lib.hid (HBQ.out.trans (hb.mono HBQ.out.size))
    clear hb
    go_wp2_with fail
    go_ret
    exact ⟨rfl, HBZ.out⟩
  obtain ⟨w4, hw⟩ : ∃ w', v4.alloc (.cells #[.slice ac nc capc, .int .i64 pc, .int .i64 jc] 24) = w' := ⟨_, rfl⟩
  have hz : Below w3.heap.size w3 w4 := by rw [← hw]; exact hb.trans ((below_box _).mono hb.size)
  have OC := Lib.hid (show EForm zc pc jc (eConv zg pg jg zh ph jh) ∧ Day (eC zc pc jc) ∧ atC zc pc jc 0 = 0 from ⟨hfc, (conv_day OG.out.1 OH.out.1 OG.out.2.1 OH.out.2.1).of hfc.val, by
    have h1 : eC zc pc jc 0 = some 0 := (hfc.2.1 0).trans (conv_zero (eC_zero0 OG.out.1 OG.out.2.2) (eC_zero0 OH.out.1 OH.out.2.2))
    exact (eC_bd hfc.good h1).2.2⟩)
  have Xf := Lib.hid (Yf.out.under hz)
  have Xb := Lib.hid (Yb.out.under hz)
  have Xc := Lib.hid (show Bx w4 v4.heap.size ac nc capc pc jc zc by rw [← hw]; exact Bx.new hr)
  have HB9 := Lib.hid (HB8.out.trans (hz.mono HB8.out.size))
  have HW4 := Lib.hid hw
  clear hb hr hfc hx hz hw Yf Yg Yh Yb HB8 HW3
  go_upto_region 10 with fail
  try rw [HW4.out]
  obtain ⟨c0, c1, c2, c3, c4, c5⟩ := Xf.out.box
  obtain ⟨d0, d1, d2, d3, d4, d5⟩ := Xc.out.box
  go_wp2_with fail
  clear c0 c1 c2 c3 c4 c5 d0 d1 d2 d3 d4 d5
  with_reducible refine (dof_day af nf capf zf pf jf OF.out.1 ac nc capc zc pc jc OC.out.1.good OC.out.2.2 OF.out.2 OC.out.2.1 _ Xf.out.row Xc.out.row).mono ?_
  rintro e v5 ⟨hb, ⟨ad, nd, capd, zd, pd, jd, rfl, hr, hfd, hx⟩ | ⟨rfl, hno⟩⟩
  rotate_left
  · have HBQ := Lib.hid (HB9.out.trans ((hb.trans ((below_box (.cells #[.slice none 0 0, .int .i64 0, .int .i64 0] 24)).mono hb.size)).mono HB9.out.size))
    clear hb hno
    go_wp2_with fail
    refine (awake8 _).mono ?_
    rintro e y9 ⟨rfl, hb⟩
    have HBZ := Lib.hid (HBQ.out.trans (hb.mono HBQ.out.size))
    clear hb
    go_wp2_with fail
    go_ret
    exact ⟨rfl, HBZ.out⟩
  obtain ⟨w5, hw⟩ : ∃ w', v5.alloc (.cells #[.slice ad nd capd, .int .i64 pd, .int .i64 jd] 24) = w' := ⟨_, rfl⟩
  have hz : Below w4.heap.size w4 w5 := by rw [← hw]; exact hb.trans ((below_box _).mono hb.size)
  have OD := Lib.hid (show EForm zd pd jd (eDec za pa ja zh ph jh) by
    have e : eDec za pa ja zh ph jh = eDec zf pf jf zc pc jc := funext fun t => by
      show oDec (eC za pa ja) (eC zh ph jh) t = oDec (eC zf pf jf) (eC zc pc jc) t
      rw [show eC za pa ja = oDec (eC zf pf jf) (eC zg pg jg) from funext OA.out.1.val, show eC zc pc jc = oconv (eC zg pg jg) (eC zh ph jh) from funext OC.out.1.val]
      exact dec_twice (eC_zero0 OG.out.1 OG.out.2.2) (eC_zero0 OH.out.1 OH.out.2.2)
    rw [e]; exact hfd)
  have Yb := Lib.hid (Xb.out.under hz)
  have Yd := Lib.hid (show Bx w5 v5.heap.size ad nd capd pd jd zd by rw [← hw]; exact Bx.new hr)
  have HB10 := Lib.hid (HB9.out.trans (hz.mono HB9.out.size))
  have HW5 := Lib.hid hw
  clear hb hr hfd hx hz hw Xf Xb Xc HB9 HW4
  go_upto_region 13 with fail
  try rw [HW5.out]
  obtain ⟨c0, c1, c2, c3, c4, c5⟩ := Yb.out.box
  obtain ⟨d0, d1, d2, d3, d4, d5⟩ := Yd.out.box
  go_wp2_with fail
  clear c0 c1 c2 c3 c4 c5 d0 d1 d2 d3 d4 d5
  with_reducible refine (same_at OB.out OD.out _ Yb.out.row Yd.out.row).mono ?_
  rintro e w6 ⟨rfl, hb⟩
  have HBQ := Lib.hid (HB10.out.trans (hb.mono HB10.out.size))
  clear hb
  go_wp2_with fail
  refine (awake8 _).mono ?_
  rintro e y9 ⟨rfl, hb⟩
  have HBZ := Lib.hid (HBQ.out.trans (hb.mono HBQ.out.size))
  clear hb
  go_wp2_with fail
  go_ret
  exact ⟨rfl, HBZ.out⟩

end Go.Proofs.Ytcbocglakielnaa
