/- The walk of RemainderMonotone. By the verifier's side. -/
import Derived.Test.YtknimlpdpgpliaaLRemP
import Derived.Test.YtknimlpdpgpliaaLKeepC
namespace Go.Proofs.Ytknimlpdpgpliaa
open Go.RowKit
set_option linter.unusedSimpArgs false
set_option linter.unusedVariables false

set_option maxRecDepth 100000 in
set_option maxHeartbeats 6400000 in
theorem remainderMonotone_walk (W : World) (a : Option Addr) (n cap : Nat) (hrow : RowAt W a n cap) :
    Calls Try.prog 6 #[.slice a n cap] W fun e w' => e = .returned (.bool true) ∧ Below W.heap.size W w' := by
  have HR := Lib.hid hrow
  clear hrow
  go_enter Try.func6, Try.ntmps6
  go_wp2_with fail
  refine (new_any a n cap _ HR.out).mono ?_
  rintro e u1 ⟨rfl, hb1, hz1, ra, rn, rc, hs1⟩
  have HB1 := Lib.hid hb1
  have HS1 := Lib.hid hs1
  have Z1 := Lib.hid hz1
  clear hb1 hz1 hs1
  go_wp2_with fail
  refine (curve_any 5 (by omega) (by omega) _ ra rn rc _ HS1.out).mono ?_
  rintro e u2 ⟨af, nf, capf, zf, pf, jf, rfl, hs2, he2, hr2, ok2, hx2⟩
  have OF := Lib.hid ok2
  have HS2 := Lib.hid hs2
  have R2 := Lib.hid hr2
  have X2 := Lib.hid (show ∀ x, af = some x → ¬ x.block = W.heap.size from fun x hx => by have := hx2 x hx; have := Z1.out; omega)
  have HB2 := Lib.hid (HB1.out.trans (he2.below (Nat.le_refl _) HB1.out.size))
  clear hs2 he2 hr2 ok2 hx2
  go_wp2_with fail
  refine (curve_any 5 (by omega) (by omega) _ ra rn rc _ HS2.out).mono ?_
  rintro e u3 ⟨ag, ng, capg, zg, pg, jg, rfl, hs3, he3, hr3, ok3, hx3⟩
  have OG := Lib.hid ok3
  have HS3 := Lib.hid hs3
  have R3 := Lib.hid hr3
  have R23 := Lib.hid (R2.out.apart he3 X2.out)
  have h9 : W.heap.size < u2.heap.size := lt_of_cell (src_cell HS2.out)
  have X3 := Lib.hid (show ∀ x, ag = some x → ¬ x.block = W.heap.size from fun x hx => by have := hx3 x hx; omega)
  have HB3 := Lib.hid (HB2.out.trans (he3.below (Nat.le_refl _) HB2.out.size))
  clear hs3 he3 hr3 ok3 hx3 h9
  go_wp2_with fail
  refine (curve_any 3 (by omega) (by omega) _ ra rn rc _ HS3.out).mono ?_
  rintro e u4 ⟨ad, nd, capd, zd, pd, jd, rfl, hs4, he4, hr4, ok4, hx4⟩
  have OD := Lib.hid ok4
  have HS4 := Lib.hid hs4
  have R4 := Lib.hid hr4
  have R34 := Lib.hid (R3.out.apart he4 X3.out)
  have R24 := Lib.hid (R23.out.apart he4 X2.out)
  have HB4 := Lib.hid (HB3.out.trans (he4.below (Nat.le_refl _) HB3.out.size))
  clear hs4 he4 hr4 ok4 hx4
  obtain ⟨w0, hw⟩ : ∃ W, ((u4.alloc (.cells #[.slice af nf capf, .int .i64 pf, .int .i64 jf] 26)).alloc (.cells #[.slice ag ng capg, .int .i64 pg, .int .i64 jg] 26)).alloc (.cells #[.slice ad nd capd, .int .i64 pd, .int .i64 jd] 26) = W := ⟨_, rfl⟩
  have hz : Below u4.heap.size u4 w0 := by rw [← hw]; exact ((below_box _).alloc (by simp) _).alloc (by simp; omega) _
  have Xf := Lib.hid (show Bx w0 u4.heap.size af nf capf pf jf zf by rw [← hw]; exact ((Bx.new R24.out).under (below_box _)).under (below_box _))
  have Xg := Lib.hid (show Bx w0 (u4.heap.size + 1) ag ng capg pg jg zg by
    rw [← hw]
    have := (Bx.new (p := pg) (inc := jg) (R34.out.alloc (.cells #[.slice af nf capf, .int .i64 pf, .int .i64 jf] 26))).under (below_box (.cells #[.slice ad nd capd, .int .i64 pd, .int .i64 jd] 26))
    rwa [show (u4.alloc (.cells #[.slice af nf capf, .int .i64 pf, .int .i64 jf] 26)).heap.size = u4.heap.size + 1 by simp] at this)
  have Xd := Lib.hid (show Bx w0 (u4.heap.size + 2) ad nd capd pd jd zd by
    rw [← hw]
    have := Bx.new (p := pd) (inc := jd) ((R4.out.alloc (.cells #[.slice af nf capf, .int .i64 pf, .int .i64 jf] 26)).alloc (.cells #[.slice ag ng capg, .int .i64 pg, .int .i64 jg] 26))
    rwa [show ((u4.alloc (.cells #[.slice af nf capf, .int .i64 pf, .int .i64 jf] 26)).alloc (.cells #[.slice ag ng capg, .int .i64 pg, .int .i64 jg] 26)).heap.size = u4.heap.size + 2 by simp] at this)
  have HB5 := Lib.hid (HB4.out.trans (hz.mono HB4.out.size))
  have SR0 := Lib.hid (src_under HS4.out hz)
  have SW := Lib.hid (show W.heap.size < u4.heap.size ∧ u4.heap.size + 3 ≤ w0.heap.size from ⟨lt_of_cell (src_cell HS4.out), by rw [← hw]; simp⟩)
  have NM := Lib.hid (show Nice 20000 (eSum zf pf jf zd pd jd) from (drawn_nice OF.out (by omega)).sum (drawn_nice OD.out (by omega)))
  have LM := Lib.hid (show Low (eSum zf pf jf zd pd jd) from (drawn_low OF.out (by omega)).sum (drawn_low OD.out (by omega)) (drawn_nice OF.out (by omega)) (drawn_nice OD.out (by omega)) (fun t x hx => (eC_bd OF.out.good hx).1) (fun t x hx => (eC_bd OD.out.good hx).1))
  have DF := Lib.hid (show Day (eC zf pf jf) ∧ Day (eC zg pg jg) ∧ Day (eC zd pd jd) from ⟨(drawn_nice OF.out (by omega)).day, (drawn_nice OG.out (by omega)).day, (drawn_nice OD.out (by omega)).day⟩)
  have hw0 := hw
  clear hw hz
  obtain ⟨c0, c1, c2, c3, c4, c5⟩ := Xf.out.box
  obtain ⟨d0, d1, d2, d3, d4, d5⟩ := Xd.out.box
  go_wp2_with fail
  try rw [hw0]
  clear hw0
  clear c0 c1 c2 c3 c4 c5 d0 d1 d2 d3 d4 d5
  have NL := Lib.hid (show Nice 20000 (eSum zg pg jg zd pd jd) from (drawn_nice OG.out (by omega)).sum (drawn_nice OD.out (by omega)))
  with_reducible refine ((rsum_day af nf capf zf pf jf OF.out.good ad nd capd zd pd jd OD.out.good DF.out.1 DF.out.2.2 _ Xf.out.row Xd.out.row).mono fun _ _ h => h.ok (NM.out.can (by omega))).mono ?_
  rintro e v1 ⟨a1, n1, cap1, z1, p1, i1, rfl, hb, hr, hf, hx⟩
  obtain ⟨w1, hw⟩ : ∃ W, v1.alloc (.cells #[.slice a1 n1 cap1, .int .i64 p1, .int .i64 i1] 26) = W := ⟨_, rfl⟩
  have hz : Below w0.heap.size w0 w1 := by rw [← hw]; exact hb.trans ((below_box _).mono hb.size)
  have Xf_1 := Lib.hid (Xf.out.under hz)
  have Xg_1 := Lib.hid (Xg.out.under hz)
  have Xd_1 := Lib.hid (Xd.out.under hz)
  have HB_1 := Lib.hid (HB5.out.trans (hz.mono HB5.out.size))
  have Xm_1 := Lib.hid (show Bx w1 v1.heap.size a1 n1 cap1 p1 i1 z1 by rw [← hw]; exact Bx.new hr)
  have HFm := Lib.hid hf
  have DM := Lib.hid (NM.out.day.of hf.val)
  have hw1 := hw
  clear hb hr hf hx hz hw
  obtain ⟨c0, c1, c2, c3, c4, c5⟩ := Xg_1.out.box
  obtain ⟨d0, d1, d2, d3, d4, d5⟩ := Xd_1.out.box
  go_wp2_with fail
  try rw [hw1]
  clear hw1
  clear c0 c1 c2 c3 c4 c5 d0 d1 d2 d3 d4 d5
  with_reducible refine ((rsum_day ag ng capg zg pg jg OG.out.good ad nd capd zd pd jd OD.out.good DF.out.2.1 DF.out.2.2 _ Xg_1.out.row Xd_1.out.row).mono fun _ _ h => h.ok (NL.out.can (by omega))).mono ?_
  rintro e v2 ⟨a2, n2, cap2, z2, p2, i2, rfl, hb, hr, hf, hx⟩
  obtain ⟨w2, hw⟩ : ∃ W, v2.alloc (.cells #[.slice a2 n2 cap2, .int .i64 p2, .int .i64 i2] 26) = W := ⟨_, rfl⟩
  have hz : Below w1.heap.size w1 w2 := by rw [← hw]; exact hb.trans ((below_box _).mono hb.size)
  have Xf_2 := Lib.hid (Xf_1.out.under hz)
  have Xg_2 := Lib.hid (Xg_1.out.under hz)
  have Xm_2 := Lib.hid (Xm_1.out.under hz)
  have HB_2 := Lib.hid (HB_1.out.trans (hz.mono HB_1.out.size))
  have Xl_2 := Lib.hid (show Bx w2 v2.heap.size a2 n2 cap2 p2 i2 z2 by rw [← hw]; exact Bx.new hr)
  have HFl := Lib.hid hf
  have DL := Lib.hid (NL.out.day.of hf.val)
  have hw2 := hw
  clear hb hr hf hx hz hw
  have OMf := Lib.hid (show ∀ t, ole (eC zf pf jf t) (eC z1 p1 i1 t) from ole_more OD.out.good HFm.out.val)
  have OLg := Lib.hid (show ∀ t, ole (eC zg pg jg t) (eC z2 p2 i2 t) from ole_more OD.out.good HFl.out.val)
  have B2 := Lib.hid (Below.refl w2.heap.size w2)
  obtain ⟨c0, c1, c2, c3, c4, c5⟩ := (Xf_2.out.under B2.out).box
  obtain ⟨d0, d1, d2, d3, d4, d5⟩ := (Xg_2.out.under B2.out).box
  go_wp2_with fail
  try rw [hw2]
  clear hw2
  clear c0 c1 c2 c3 c4 c5 d0 d1 d2 d3 d4 d5
  with_reducible refine ((rest_day af nf capf zf pf jf OF.out.good ag ng capg zg pg jg OG.out.good DF.out.1 DF.out.2.1 _ (Xf_2.out.under B2.out).row (Xg_2.out.under B2.out).row).mono fun _ _ h => h.mx).mono ?_
  rintro e v3 ⟨a3, n3, cap3, z3, p3, i3, c3, rfl, hb, hr, hm, hc, hx⟩
  obtain ⟨w3, hw⟩ : ∃ W, v3.alloc (.cells #[.slice a3 n3 cap3, .int .i64 p3, .int .i64 i3] 26) = W := ⟨_, rfl⟩
  have hz : Below w2.heap.size w2 w3 := by rw [← hw]; exact hb.trans ((below_box _).mono hb.size)
  have B3 := Lib.hid (B2.out.trans (hz.mono B2.out.size))
  have X3 := Lib.hid (show BxI w3 v3.heap.size a3 n3 cap3 p3 i3 z3 by rw [← hw]; exact BxI.new hr)
  have Z3 := Lib.hid (show w2.heap.size ≤ v3.heap.size ∧ v3.heap.size < w3.heap.size from ⟨hb.size, by rw [← hw]; simp⟩)
  have HM3 := Lib.hid hm
  have HC3 := Lib.hid hc
  have hw3 := hw
  clear hb hr hm hc hx hz hw
  obtain ⟨c0, c1, c2, c3, c4, c5⟩ := (Xm_2.out.under B3.out).box
  obtain ⟨d0, d1, d2, d3, d4, d5⟩ := (Xg_2.out.under B3.out).box
  go_wp2_with fail
  try rw [hw3]
  clear hw3
  clear c0 c1 c2 c3 c4 c5 d0 d1 d2 d3 d4 d5
  with_reducible refine ((rest_day a1 n1 cap1 z1 p1 i1 HFm.out.good ag ng capg zg pg jg OG.out.good DM.out DF.out.2.1 _ (Xm_2.out.under B3.out).row (Xg_2.out.under B3.out).row).mono fun _ _ h => h.mx).mono ?_
  rintro e v4 ⟨a4, n4, cap4, z4, p4, i4, c4, rfl, hb, hr, hm, hc, hx⟩
  obtain ⟨w4, hw⟩ : ∃ W, v4.alloc (.cells #[.slice a4 n4 cap4, .int .i64 p4, .int .i64 i4] 26) = W := ⟨_, rfl⟩
  have hz : Below w3.heap.size w3 w4 := by rw [← hw]; exact hb.trans ((below_box _).mono hb.size)
  have B4 := Lib.hid (B3.out.trans (hz.mono B3.out.size))
  have X4 := Lib.hid (show BxI w4 v4.heap.size a4 n4 cap4 p4 i4 z4 by rw [← hw]; exact BxI.new hr)
  have Z4 := Lib.hid (show w3.heap.size ≤ v4.heap.size ∧ v4.heap.size < w4.heap.size from ⟨hb.size, by rw [← hw]; simp⟩)
  have HM4 := Lib.hid hm
  have HC4 := Lib.hid hc
  have X3_4 := Lib.hid (X3.out.under hz)
  have hw4 := hw
  clear hb hr hm hc hx hz hw
  obtain ⟨c0, c1, c2, c3, c4, c5⟩ := (Xf_2.out.under B4.out).box
  obtain ⟨d0, d1, d2, d3, d4, d5⟩ := (Xl_2.out.under B4.out).box
  go_wp2_with fail
  try rw [hw4]
  clear hw4
  clear c0 c1 c2 c3 c4 c5 d0 d1 d2 d3 d4 d5
  with_reducible refine ((rest_day af nf capf zf pf jf OF.out.good a2 n2 cap2 z2 p2 i2 HFl.out.good DF.out.1 DL.out _ (Xf_2.out.under B4.out).row (Xl_2.out.under B4.out).row).mono fun _ _ h => h.mx).mono ?_
  rintro e v5 ⟨a5, n5, cap5, z5, p5, i5, c5, rfl, hb, hr, hm, hc, hx⟩
  obtain ⟨w5, hw⟩ : ∃ W, v5.alloc (.cells #[.slice a5 n5 cap5, .int .i64 p5, .int .i64 i5] 26) = W := ⟨_, rfl⟩
  have hz : Below w4.heap.size w4 w5 := by rw [← hw]; exact hb.trans ((below_box _).mono hb.size)
  have B5 := Lib.hid (B4.out.trans (hz.mono B4.out.size))
  have X5 := Lib.hid (show BxI w5 v5.heap.size a5 n5 cap5 p5 i5 z5 by rw [← hw]; exact BxI.new hr)
  have Z5 := Lib.hid (show w4.heap.size ≤ v5.heap.size ∧ v5.heap.size < w5.heap.size from ⟨hb.size, by rw [← hw]; simp⟩)
  have HM5 := Lib.hid hm
  have HC5 := Lib.hid hc
  have X3_5 := Lib.hid (X3_4.out.under hz)
  have X4_5 := Lib.hid (X4.out.under hz)
  have hw5 := hw
  clear hb hr hm hc hx hz hw
  go_upto_region 10 with fail
  try rw [hw5]
  clear hw5
  go_cut [86] (fun s86 wx => s86 = .bool false ∧ Hid (Below w5.heap.size w5 wx))
  case first =>
    have BZ := Lib.hid (Below.refl w5.heap.size w5)
    rcases HC3.out with rfl | rfl <;> rcases HC4.out with rfl | rfl <;> rcases HC5.out with rfl | rfl
    · obtain ⟨q3, rfl, hf3⟩ := HM3.out.ok
      have HF3 := Lib.hid hf3
      clear hf3
      obtain ⟨q4, rfl, hf4⟩ := HM4.out.ok
      have HF4 := Lib.hid hf4
      clear hf4
      obtain ⟨q5, rfl, hf5⟩ := HM5.out.ok
      have HF5 := Lib.hid hf5
      clear hf5
      obtain ⟨c0, c1, c2, c3, c4, c5⟩ := (X3_5.out.under BZ.out).box
      obtain ⟨d0, d1, d2, d3, d4, d5⟩ := (X4_5.out.under BZ.out).box
      go_wp2_with fail
      clear c0 c1 c2 c3 c4 c5 d0 d1 d2 d3 d4 d5
      with_reducible refine (most_at HF3.out HF4.out (rest_more OMf.out) _ (X3_5.out.under BZ.out).row (X4_5.out.under BZ.out).row).mono ?_
      rintro e y1 ⟨rfl, hb⟩
      have BY1 := Lib.hid (BZ.out.trans (hb.mono BZ.out.size))
      clear hb
      obtain ⟨c0, c1, c2, c3, c4, c5⟩ := (X5.out.under BY1.out).box
      obtain ⟨d0, d1, d2, d3, d4, d5⟩ := (X3_5.out.under BY1.out).box
      go_wp2_with fail
      clear c0 c1 c2 c3 c4 c5 d0 d1 d2 d3 d4 d5
      with_reducible refine (most_at HF5.out HF3.out (rest_less OLg.out) _ (X5.out.under BY1.out).row (X3_5.out.under BY1.out).row).mono ?_
      rintro e y2 ⟨rfl, hb⟩
      have BY2 := Lib.hid (BY1.out.trans (hb.mono BY1.out.size))
      clear hb
      go_wp2_with fail
      go_meet
      exact ⟨rfl, BY2⟩
    · obtain ⟨q3, rfl, hf3⟩ := HM3.out.ok
      have HF3 := Lib.hid hf3
      clear hf3
      obtain ⟨q4, rfl, hf4⟩ := HM4.out.ok
      have HF4 := Lib.hid hf4
      clear hf4
      obtain ⟨c0, c1, c2, c3, c4, c5⟩ := (X3_5.out.under BZ.out).box
      obtain ⟨d0, d1, d2, d3, d4, d5⟩ := (X4_5.out.under BZ.out).box
      go_wp2_with fail
      clear c0 c1 c2 c3 c4 c5 d0 d1 d2 d3 d4 d5
      with_reducible refine (most_at HF3.out HF4.out (rest_more OMf.out) _ (X3_5.out.under BZ.out).row (X4_5.out.under BZ.out).row).mono ?_
      rintro e y1 ⟨rfl, hb⟩
      have BY1 := Lib.hid (BZ.out.trans (hb.mono BZ.out.size))
      clear hb
      go_wp2_with fail
      go_meet
      exact ⟨rfl, BY1⟩
    · obtain ⟨q3, rfl, hf3⟩ := HM3.out.ok
      have HF3 := Lib.hid hf3
      clear hf3
      obtain ⟨q5, rfl, hf5⟩ := HM5.out.ok
      have HF5 := Lib.hid hf5
      clear hf5
      obtain ⟨c0, c1, c2, c3, c4, c5⟩ := (X5.out.under BZ.out).box
      obtain ⟨d0, d1, d2, d3, d4, d5⟩ := (X3_5.out.under BZ.out).box
      go_wp2_with fail
      clear c0 c1 c2 c3 c4 c5 d0 d1 d2 d3 d4 d5
      with_reducible refine (most_at HF5.out HF3.out (rest_less OLg.out) _ (X5.out.under BZ.out).row (X3_5.out.under BZ.out).row).mono ?_
      rintro e y2 ⟨rfl, hb⟩
      have BY2 := Lib.hid (BZ.out.trans (hb.mono BZ.out.size))
      clear hb
      go_wp2_with fail
      go_meet
      exact ⟨rfl, BY2⟩
    · go_wp2_with fail
      go_meet
      exact ⟨rfl, BZ⟩
    · go_wp2_with fail
      go_meet
      exact ⟨rfl, BZ⟩
    · go_wp2_with fail
      go_meet
      exact ⟨rfl, BZ⟩
    · go_wp2_with fail
      go_meet
      exact ⟨rfl, BZ⟩
    · go_wp2_with fail
      go_meet
      exact ⟨rfl, BZ⟩
  case rest =>
    obtain ⟨rfl, GJ⟩ := hcut
    obtain ⟨w6, rfl⟩ : ∃ u : World, u = wc := ⟨_, rfl⟩
    have B6 := Lib.hid (B5.out.trans (GJ.out.mono B5.out.size))
    have K3 := Lib.hid (X3_5.out.under GJ.out).box
    have K4 := Lib.hid (X4_5.out.under GJ.out).box
    have K5 := Lib.hid (X5.out.under GJ.out).box
    have SZ := Lib.hid (show w2.heap.size ≤ v3.heap.size ∧ v3.heap.size < v4.heap.size ∧ v4.heap.size < v5.heap.size ∧ v5.heap.size < w6.heap.size by
      have h1 := Z3.out; have h2 := Z4.out; have h3 := Z5.out; have h4 := GJ.out.size
      omega)
    clear X3 X4 X3_4 X3_5 X4_5 X5 HM3 HM4 HM5 HC3 HC4 HC5 GJ B3 B4 B5 Z3 Z4 Z5
    obtain ⟨c0, c1, c2, c3, c4, c5⟩ := (Xf_2.out.under B6.out).box
    obtain ⟨d0, d1, d2, d3, d4, d5⟩ := (Xg_2.out.under B6.out).box
    go_wp2_with fail
    clear c0 c1 c2 c3 c4 c5 d0 d1 d2 d3 d4 d5
    with_reducible refine ((above_day af nf capf zf pf jf OF.out.good ag ng capg zg pg jg OG.out.good DF.out.1 DF.out.2.1 _ (Xf_2.out.under B6.out).row (Xg_2.out.under B6.out).row).mono fun _ _ h => h.mx).mono ?_
    rintro e v7 ⟨a7, n7, cap7, z7, p7, i7, c7, rfl, hb, hr, hm, hc, hx⟩
    obtain ⟨w7, hw⟩ : ∃ W, (((v7.setCell ⟨v3.heap.size, 0, none⟩ (.slice a7 n7 cap7)).setCell ⟨v3.heap.size, 1, none⟩ (.int .i64 p7)).setCell ⟨v3.heap.size, 2, none⟩ (.int .i64 i7)) = W := ⟨_, rfl⟩
    have SZb := hb.size
    have HX7 := Lib.hid (show ∀ x, a7 = some x → v5.heap.size < x.block from fun x h => by have := hx x h; have := SZ.out; omega)
    have SZ7 := Lib.hid (show v5.heap.size < w7.heap.size by rw [← hw]; have := SZ.out; simp [World.setCell]; omega)
    have B7 := Lib.hid (show Below w2.heap.size w2 w7 by rw [← hw]; exact below_set3 (B6.out.trans (hb.mono B6.out.size)) (by have := SZ.out; omega) _ _ _)
    have X7 := Lib.hid (show BxI w7 v3.heap.size a7 n7 cap7 p7 i7 z7 by
      rw [← hw]
      exact ⟨(K3.out.below hb).set _ _ _, ((hr.store (fun x h1 h2 => by have := hx x h1; have := SZ.out; omega) _ _).store (fun x h1 h2 => by have := hx x h1; have := SZ.out; omega) _ _).store (fun x h1 h2 => by have := hx x h1; have := SZ.out; omega) _ _⟩)
    have K4_7 := Lib.hid (show Cur3 w7 _ _ _ _ by rw [← hw]; exact (((K4.out.below hb).other (by have := SZ.out; omega) _ _).other (by have := SZ.out; omega) _ _).other (by have := SZ.out; omega) _ _)
    have K5_7 := Lib.hid (show Cur3 w7 _ _ _ _ by rw [← hw]; exact (((K5.out.below hb).other (by have := SZ.out; omega) _ _).other (by have := SZ.out; omega) _ _).other (by have := SZ.out; omega) _ _)
    have HM7 := Lib.hid hm
    have HC7 := Lib.hid hc
    have HBW7 := Lib.hid (show Below w2.heap.size w2 v7 from B6.out.trans (hb.mono B6.out.size))
    obtain ⟨h0, h1, h2, h3, h4, h5⟩ := K3.out.below hb
    have hw7 := hw
    clear hb hr hm hc hx hw SZb
    obtain ⟨c0, c1, c2, c3, c4, c5⟩ := (Xm_2.out.under B7.out).box
    obtain ⟨d0, d1, d2, d3, d4, d5⟩ := (Xg_2.out.under B7.out).box
    go_wp2_with fail
    try rw [hw7]
    clear hw7 h0 h1 h2 h3 h4 h5
    clear c0 c1 c2 c3 c4 c5 d0 d1 d2 d3 d4 d5
    with_reducible refine ((above_day a1 n1 cap1 z1 p1 i1 HFm.out.good ag ng capg zg pg jg OG.out.good DM.out DF.out.2.1 _ (Xm_2.out.under B7.out).row (Xg_2.out.under B7.out).row).mono fun _ _ h => h.mx).mono ?_
    rintro e v8 ⟨a8, n8, cap8, z8, p8, i8, c8, rfl, hb, hr, hm, hc, hx⟩
    obtain ⟨w8, hw⟩ : ∃ W, (((v8.setCell ⟨v4.heap.size, 0, none⟩ (.slice a8 n8 cap8)).setCell ⟨v4.heap.size, 1, none⟩ (.int .i64 p8)).setCell ⟨v4.heap.size, 2, none⟩ (.int .i64 i8)) = W := ⟨_, rfl⟩
    have SZb := hb.size
    have HX8 := Lib.hid (show ∀ x, a8 = some x → v5.heap.size < x.block from fun x h => by have := hx x h; have := SZ.out; have := SZ7.out; omega)
    have SZ8 := Lib.hid (show v5.heap.size < w8.heap.size by rw [← hw]; have := SZ.out; have := SZ7.out; simp [World.setCell]; omega)
    have B8 := Lib.hid (show Below w2.heap.size w2 w8 by rw [← hw]; exact below_set3 (B7.out.trans (hb.mono B7.out.size)) (by have := SZ.out; omega) _ _ _)
    have X8 := Lib.hid (show BxI w8 v4.heap.size a8 n8 cap8 p8 i8 z8 by
      rw [← hw]
      exact ⟨(K4_7.out.below hb).set _ _ _, ((hr.store (fun x h1 h2 => by have := hx x h1; have := SZ.out; have := SZ7.out; omega) _ _).store (fun x h1 h2 => by have := hx x h1; have := SZ.out; have := SZ7.out; omega) _ _).store (fun x h1 h2 => by have := hx x h1; have := SZ.out; have := SZ7.out; omega) _ _⟩)
    have X7_8 := Lib.hid (show BxI w8 _ _ _ _ _ _ _ by rw [← hw]; exact (X7.out.under hb).set (by have := SZ.out; omega) (fun x h1 _ => by have := HX7.out x h1; have := SZ.out; omega) _ _ _)
    have K5_8 := Lib.hid (show Cur3 w8 _ _ _ _ by rw [← hw]; exact (((K5_7.out.below hb).other (by have := SZ.out; omega) _ _).other (by have := SZ.out; omega) _ _).other (by have := SZ.out; omega) _ _)
    have HM8 := Lib.hid hm
    have HC8 := Lib.hid hc
    have HBW8 := Lib.hid (show Below w2.heap.size w2 v8 from B7.out.trans (hb.mono B7.out.size))
    obtain ⟨h0, h1, h2, h3, h4, h5⟩ := K4_7.out.below hb
    have hw8 := hw
    clear hb hr hm hc hx hw SZb
    obtain ⟨c0, c1, c2, c3, c4, c5⟩ := (Xf_2.out.under B8.out).box
    obtain ⟨d0, d1, d2, d3, d4, d5⟩ := (Xl_2.out.under B8.out).box
    go_wp2_with fail
    try rw [hw8]
    clear hw8 h0 h1 h2 h3 h4 h5
    clear c0 c1 c2 c3 c4 c5 d0 d1 d2 d3 d4 d5
    with_reducible refine ((above_day af nf capf zf pf jf OF.out.good a2 n2 cap2 z2 p2 i2 HFl.out.good DF.out.1 DL.out _ (Xf_2.out.under B8.out).row (Xl_2.out.under B8.out).row).mono fun _ _ h => h.mx).mono ?_
    rintro e v9 ⟨a9, n9, cap9, z9, p9, i9, c9, rfl, hb, hr, hm, hc, hx⟩
    obtain ⟨w9, hw⟩ : ∃ W, (((v9.setCell ⟨v5.heap.size, 0, none⟩ (.slice a9 n9 cap9)).setCell ⟨v5.heap.size, 1, none⟩ (.int .i64 p9)).setCell ⟨v5.heap.size, 2, none⟩ (.int .i64 i9)) = W := ⟨_, rfl⟩
    have SZb := hb.size
    have HX9 := Lib.hid (show ∀ x, a9 = some x → v5.heap.size < x.block from fun x h => by have := hx x h; have := SZ.out; have := SZ8.out; omega)
    have SZ9 := Lib.hid (show v5.heap.size < w9.heap.size by rw [← hw]; have := SZ.out; have := SZ8.out; simp [World.setCell]; omega)
    have B9 := Lib.hid (show Below w2.heap.size w2 w9 by rw [← hw]; exact below_set3 (B8.out.trans (hb.mono B8.out.size)) (by have := SZ.out; omega) _ _ _)
    have X9 := Lib.hid (show BxI w9 v5.heap.size a9 n9 cap9 p9 i9 z9 by
      rw [← hw]
      exact ⟨(K5_8.out.below hb).set _ _ _, ((hr.store (fun x h1 h2 => by have := hx x h1; have := SZ.out; have := SZ8.out; omega) _ _).store (fun x h1 h2 => by have := hx x h1; have := SZ.out; have := SZ8.out; omega) _ _).store (fun x h1 h2 => by have := hx x h1; have := SZ.out; have := SZ8.out; omega) _ _⟩)
    have X7_9 := Lib.hid (show BxI w9 _ _ _ _ _ _ _ by rw [← hw]; exact (X7_8.out.under hb).set (by have := SZ.out; omega) (fun x h1 _ => by have := HX7.out x h1; have := SZ.out; omega) _ _ _)
    have X8_9 := Lib.hid (show BxI w9 _ _ _ _ _ _ _ by rw [← hw]; exact (X8.out.under hb).set (by have := SZ.out; omega) (fun x h1 _ => by have := HX8.out x h1; have := SZ.out; omega) _ _ _)
    have HM9 := Lib.hid hm
    have HC9 := Lib.hid hc
    have HBW9 := Lib.hid (show Below w2.heap.size w2 v9 from B8.out.trans (hb.mono B8.out.size))
    obtain ⟨h0, h1, h2, h3, h4, h5⟩ := K5_8.out.below hb
    have hw9 := hw
    clear hb hr hm hc hx hw SZb
    go_upto_region 15 with fail
    try rw [hw9]
    clear hw9 h0 h1 h2 h3 h4 h5
    have BZ := Lib.hid (Below.refl w9.heap.size w9)
    rcases HC7.out with rfl | rfl <;> rcases HC8.out with rfl | rfl <;> rcases HC9.out with rfl | rfl
    · obtain ⟨q7, rfl, hf7⟩ := HM7.out.ok
      have HF7 := Lib.hid hf7
      clear hf7
      obtain ⟨q8, rfl, hf8⟩ := HM8.out.ok
      have HF8 := Lib.hid hf8
      clear hf8
      obtain ⟨q9, rfl, hf9⟩ := HM9.out.ok
      have HF9 := Lib.hid hf9
      clear hf9
      obtain ⟨c0, c1, c2, c3, c4, c5⟩ := (X7_9.out.under BZ.out).box
      obtain ⟨d0, d1, d2, d3, d4, d5⟩ := (X8_9.out.under BZ.out).box
      go_wp2_with fail
      clear c0 c1 c2 c3 c4 c5 d0 d1 d2 d3 d4 d5
      with_reducible refine (most_at HF7.out HF8.out (above_more OMf.out) _ (X7_9.out.under BZ.out).row (X8_9.out.under BZ.out).row).mono ?_
      rintro e y1 ⟨rfl, hb⟩
      have BY1 := Lib.hid (BZ.out.trans (hb.mono BZ.out.size))
      clear hb
      obtain ⟨c0, c1, c2, c3, c4, c5⟩ := (X9.out.under BY1.out).box
      obtain ⟨d0, d1, d2, d3, d4, d5⟩ := (X7_9.out.under BY1.out).box
      go_wp2_with fail
      clear c0 c1 c2 c3 c4 c5 d0 d1 d2 d3 d4 d5
      with_reducible refine (most_at HF9.out HF7.out (above_less OLg.out) _ (X9.out.under BY1.out).row (X7_9.out.under BY1.out).row).mono ?_
      rintro e y2 ⟨rfl, hb⟩
      have BY2 := Lib.hid (BY1.out.trans (hb.mono BY1.out.size))
      clear hb
      go_wp2_with fail
      refine (awake6 _).mono ?_
      rintro e yz ⟨rfl, hb⟩
      have HZ := Lib.hid (HB_2.out.trans ((B9.out.trans ((BY2.out.trans (hb.mono BY2.out.size)).mono B9.out.size)).mono HB_2.out.size))
      clear hb
      go_wp2_with fail
      go_ret
      exact ⟨rfl, HZ.out⟩
    · obtain ⟨q7, rfl, hf7⟩ := HM7.out.ok
      have HF7 := Lib.hid hf7
      clear hf7
      obtain ⟨q8, rfl, hf8⟩ := HM8.out.ok
      have HF8 := Lib.hid hf8
      clear hf8
      obtain ⟨c0, c1, c2, c3, c4, c5⟩ := (X7_9.out.under BZ.out).box
      obtain ⟨d0, d1, d2, d3, d4, d5⟩ := (X8_9.out.under BZ.out).box
      go_wp2_with fail
      clear c0 c1 c2 c3 c4 c5 d0 d1 d2 d3 d4 d5
      with_reducible refine (most_at HF7.out HF8.out (above_more OMf.out) _ (X7_9.out.under BZ.out).row (X8_9.out.under BZ.out).row).mono ?_
      rintro e y1 ⟨rfl, hb⟩
      have BY1 := Lib.hid (BZ.out.trans (hb.mono BZ.out.size))
      clear hb
      go_wp2_with fail
      refine (awake6 _).mono ?_
      rintro e yz ⟨rfl, hb⟩
      have HZ := Lib.hid (HB_2.out.trans ((B9.out.trans ((BY1.out.trans (hb.mono BY1.out.size)).mono B9.out.size)).mono HB_2.out.size))
      clear hb
      go_wp2_with fail
      go_ret
      exact ⟨rfl, HZ.out⟩
    · obtain ⟨q7, rfl, hf7⟩ := HM7.out.ok
      have HF7 := Lib.hid hf7
      clear hf7
      obtain ⟨q9, rfl, hf9⟩ := HM9.out.ok
      have HF9 := Lib.hid hf9
      clear hf9
      obtain ⟨c0, c1, c2, c3, c4, c5⟩ := (X9.out.under BZ.out).box
      obtain ⟨d0, d1, d2, d3, d4, d5⟩ := (X7_9.out.under BZ.out).box
      go_wp2_with fail
      clear c0 c1 c2 c3 c4 c5 d0 d1 d2 d3 d4 d5
      with_reducible refine (most_at HF9.out HF7.out (above_less OLg.out) _ (X9.out.under BZ.out).row (X7_9.out.under BZ.out).row).mono ?_
      rintro e y2 ⟨rfl, hb⟩
      have BY2 := Lib.hid (BZ.out.trans (hb.mono BZ.out.size))
      clear hb
      go_wp2_with fail
      refine (awake6 _).mono ?_
      rintro e yz ⟨rfl, hb⟩
      have HZ := Lib.hid (HB_2.out.trans ((B9.out.trans ((BY2.out.trans (hb.mono BY2.out.size)).mono B9.out.size)).mono HB_2.out.size))
      clear hb
      go_wp2_with fail
      go_ret
      exact ⟨rfl, HZ.out⟩
    · go_wp2_with fail
      refine (awake6 _).mono ?_
      rintro e yz ⟨rfl, hb⟩
      have HZ := Lib.hid (HB_2.out.trans ((B9.out.trans ((BZ.out.trans (hb.mono BZ.out.size)).mono B9.out.size)).mono HB_2.out.size))
      clear hb
      go_wp2_with fail
      go_ret
      exact ⟨rfl, HZ.out⟩
    · go_wp2_with fail
      refine (awake6 _).mono ?_
      rintro e yz ⟨rfl, hb⟩
      have HZ := Lib.hid (HB_2.out.trans ((B9.out.trans ((BZ.out.trans (hb.mono BZ.out.size)).mono B9.out.size)).mono HB_2.out.size))
      clear hb
      go_wp2_with fail
      go_ret
      exact ⟨rfl, HZ.out⟩
    · go_wp2_with fail
      refine (awake6 _).mono ?_
      rintro e yz ⟨rfl, hb⟩
      have HZ := Lib.hid (HB_2.out.trans ((B9.out.trans ((BZ.out.trans (hb.mono BZ.out.size)).mono B9.out.size)).mono HB_2.out.size))
      clear hb
      go_wp2_with fail
      go_ret
      exact ⟨rfl, HZ.out⟩
    · go_wp2_with fail
      refine (awake6 _).mono ?_
      rintro e yz ⟨rfl, hb⟩
      have HZ := Lib.hid (HB_2.out.trans ((B9.out.trans ((BZ.out.trans (hb.mono BZ.out.size)).mono B9.out.size)).mono HB_2.out.size))
      clear hb
      go_wp2_with fail
      go_ret
      exact ⟨rfl, HZ.out⟩
    · go_wp2_with fail
      refine (awake6 _).mono ?_
      rintro e yz ⟨rfl, hb⟩
      have HZ := Lib.hid (HB_2.out.trans ((B9.out.trans ((BZ.out.trans (hb.mono BZ.out.size)).mono B9.out.size)).mono HB_2.out.size))
      clear hb
      go_wp2_with fail
      go_ret
      exact ⟨rfl, HZ.out⟩

end Go.Proofs.Ytknimlpdpgpliaa
