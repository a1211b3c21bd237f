/- The walk of DeviationScales. By the verifier's side. -/
import Derived.Test.YtjjaaknjdmijbaaQaDevH
import Derived.Test.YtjjaaknjdmijbaaQaRSca
namespace Go.Proofs.Ytjjaaknjdmijbaa
open Go.RowKit
set_option linter.unusedSimpArgs false
set_option linter.unusedVariables false

set_option maxRecDepth 100000 in
set_option maxHeartbeats 6400000 in
theorem deviationScales_walk (W : World) (a : Option Addr) (n cap : Nat) (hrow : RowAt W a n cap) :
    Calls Try.prog 13 #[.slice a n cap] W fun e w' => e = .returned (.bool true) ∧ Below W.heap.size W w' := by
  have HR := Lib.hid hrow
  clear hrow
  go_enter Try.func13, Try.ntmps13
  go_wp2_with fail
  refine (new_any a n cap _ HR.out).mono ?_
  rintro e u1 ⟨rfl, hb1, hz1, ra, rn, rc, hs1⟩
  have HB1 := Lib.hid hb1
  have HS1 := Lib.hid hs1
  have Z1 := Lib.hid hz1
  clear hb1 hz1 hs1
  go_wp2_with fail
  refine (zero_any3 6 (by omega) (by omega) _ ra rn rc _ HS1.out).mono ?_
  rintro e u2 ⟨af, nf, capf, zf, pf, jf, rfl, hs, he, hr, hg, hn, h0, hsm, hx⟩
  have Of := Lib.hid (And.intro hg (day_zero hn hsm))
  have Ff := Lib.hid (And.intro hn (And.intro h0 hsm))
  have Xf := Lib.hid (show ∀ x, af = some x → ¬ x.block = W.heap.size from fun x h => by have := hx x h; have := Z1.out; omega)
  have Rf := Lib.hid hr
  have HS2 := Lib.hid hs
  have HB2 := Lib.hid (HB1.out.trans (he.below (Nat.le_refl _) HB1.out.size))
  clear hs he hg hn h0 hsm hx hr
  go_wp2_with fail
  refine (zero_any3 6 (by omega) (by omega) _ ra rn rc _ HS2.out).mono ?_
  rintro e u3 ⟨ag, ng, capg, zg, pg, jg, rfl, hs, he, hr, hg, hn, h0, hsm, hx⟩
  have Og := Lib.hid (And.intro hg (day_zero hn hsm))
  have Fg := Lib.hid (And.intro hn (And.intro h0 hsm))
  have Rf := Lib.hid (Rf.out.apart he Xf.out)
  have Xg := Lib.hid (show ∀ x, ag = some x → ¬ x.block = W.heap.size from fun x h => by have := hx x h; have h9 : W.heap.size < u2.heap.size := lt_of_cell (src_cell HS2.out); omega)
  have Rg := Lib.hid hr
  have HS3 := Lib.hid hs
  have HB3 := Lib.hid (HB2.out.trans (he.below (Nat.le_refl _) HB2.out.size))
  clear hs he hg hn h0 hsm hx hr
  go_wp2_with fail
  refine (n_any 9 (by omega) (by omega) _ ra rn rc _ HS3.out).mono ?_
  rintro e u4 ⟨r, ⟨r0, r1⟩, rfl, hs, he'⟩
  have he := he'.apart
  clear he'
  have Rf := Lib.hid (Rf.out.apart he Xf.out)
  have Rg := Lib.hid (Rg.out.apart he Xg.out)
  have HS4 := Lib.hid hs
  have HB4 := Lib.hid (HB3.out.trans (he.below (Nat.le_refl _) HB3.out.size))
  clear hs he 
  obtain ⟨y0, hy0⟩ : ∃ w', u4.alloc (.cells #[.slice af nf capf, .int .i64 pf, .int .i64 jf] 24) = w' := ⟨_, rfl⟩
  have hz0 : Below u4.heap.size u4 y0 := by rw [← hy0]; exact below_box _
  have sz0 : y0.heap.size = u4.heap.size + 1 := by rw [← hy0]; simp
  obtain ⟨y1, hy1⟩ : ∃ w', y0.alloc (.cells #[.slice ag ng capg, .int .i64 pg, .int .i64 jg] 24) = w' := ⟨_, rfl⟩
  have hz1 : Below y0.heap.size y0 y1 := by rw [← hy1]; exact below_box _
  have sz1 : y1.heap.size = y0.heap.size + 1 := by rw [← hy1]; simp
  have Uf : Bx y0 u4.heap.size af nf capf pf jf zf := by rw [← hy0]; exact Bx.new Rf.out
  have Uf := Uf.under hz1
  have Ug : Bx y1 y0.heap.size ag ng capg pg jg zg := by rw [← hy1]; exact Bx.new (Rg.out.under hz0)
  have HC0 := Lib.hid (HB4.out.trans (hz0.mono HB4.out.size))
  have HC1 := Lib.hid (HC0.out.trans (hz1.mono HC0.out.size))
  have HY := Lib.hid (And.intro hy0 (hy1))
  obtain ⟨ki, hki⟩ : ∃ ki, 1 + r = ki := ⟨_, rfl⟩
  have hkw : IntKind.i64.wrap (1 + r) = ki := by rw [hki]; exact IntWalk.i64_in _ ⟨by omega, by omega⟩
  have HK := Lib.hid (show 1 ≤ ki ∧ ki ≤ 9 from ⟨by omega, by omega⟩)
  go_upto_region 3 with fail
  try rw [HY.out.1]
  try rw [HY.out.2]
  clear HY
  obtain ⟨Bf, hB⟩ : ∃ B, u4.heap.size = B := ⟨_, rfl⟩
  rw [hB] at Uf sz0
  try rw [hB]
  have HB_f := Lib.hid hB
  clear hB
  rw [sz0] at Ug sz1
  obtain ⟨Bg, hB⟩ : ∃ B, Bf + 1 = B := ⟨_, rfl⟩
  rw [hB] at Ug sz1
  try rw [hB]
  have HB_g := Lib.hid hB
  clear hB
  have Xf := Lib.hid Uf
  have Xg := Lib.hid Ug
  clear Uf hz0 sz0 hy0 Ug hz1 sz1 hy1 Rf Rg HS1 HS2 HS3 HS4 Z1
  clear hki hkw r0 r1
  have CF := Lib.hid (show ECan (eScale ki zf pf jf) from mul_can Of.out.1 (fun t x ht h => by rw [eC_fin Ff.out.1] at h; cases h; have := (Ff.out.2.2.2 Ff.out.1).1 t; omega) HK.out.1 HK.out.2)
  have CG := Lib.hid (show ECan (eScale ki zg pg jg) from mul_can Og.out.1 (fun t x ht h => by rw [eC_fin Fg.out.1] at h; cases h; have := (Fg.out.2.2.2 Fg.out.1).1 t; omega) HK.out.1 HK.out.2)
  obtain ⟨c0, c1, c2, c3, c4, c5⟩ := Xf.out.box
  go_wp2_with fail
  clear c0 c1 c2 c3 c4 c5
  with_reducible refine ((rscale_ok af nf capf zf pf jf Of.out.1 ki HK.out.1 (by have := HK.out.2; omega) _ Xf.out.row).mono fun _ _ h => h.ok CF.out).mono ?_
  rintro e v1 ⟨aa, na, capa, za, pa, ja, rfl, hb, hr, hf, _⟩
  obtain ⟨w1, hw⟩ : ∃ w', v1.alloc (.cells #[.slice aa na capa, .int .i64 pa, .int .i64 ja] 24) = w' := ⟨_, rfl⟩
  have hz : Below y1.heap.size y1 w1 := by rw [← hw]; exact hb.trans ((below_box _).mono hb.size)
  have Xf := Lib.hid (Xf.out.under hz)
  have Xg := Lib.hid (Xg.out.under hz)
  have Xa := Lib.hid (show Bx w1 v1.heap.size aa na capa pa ja za by rw [← hw]; exact Bx.new hr)
  have Oa := Lib.hid (And.intro hf.1 (hf.2.1 : ∀ t, _ = eScale ki zf pf jf t))
  clear hf
  have HE1 := Lib.hid (HC1.out.trans (hz.mono HC1.out.size))
  have HW := Lib.hid hw
  clear hz hw hb hr
  go_upto_region 4 with fail
  try rw [HW.out]
  obtain ⟨Ba, hB⟩ : ∃ B, v1.heap.size = B := ⟨_, rfl⟩
  rw [hB] at Xa
  try rw [hB]
  clear hB HW
  have Da := Lib.hid (show Day (eC za pa ja) from (Day.scaleO Of.out.2 ki).of Oa.out.2)
  obtain ⟨c0, c1, c2, c3, c4, c5⟩ := Xg.out.box
  go_wp2_with fail
  clear c0 c1 c2 c3 c4 c5
  with_reducible refine ((rscale_ok ag ng capg zg pg jg Og.out.1 ki HK.out.1 (by have := HK.out.2; omega) _ Xg.out.row).mono fun _ _ h => h.ok CG.out).mono ?_
  rintro e v2 ⟨ab, nb, capb, zb, pb, jb, rfl, hb, hr, hf, _⟩
  obtain ⟨w2, hw⟩ : ∃ w', v2.alloc (.cells #[.slice ab nb capb, .int .i64 pb, .int .i64 jb] 24) = w' := ⟨_, rfl⟩
  have hz : Below w1.heap.size w1 w2 := by rw [← hw]; exact hb.trans ((below_box _).mono hb.size)
  have Xf := Lib.hid (Xf.out.under hz)
  have Xg := Lib.hid (Xg.out.under hz)
  have Xa := Lib.hid (Xa.out.under hz)
  have Xb := Lib.hid (show Bx w2 v2.heap.size ab nb capb pb jb zb by rw [← hw]; exact Bx.new hr)
  have Ob := Lib.hid (And.intro hf.1 (hf.2.1 : ∀ t, _ = eScale ki zg pg jg t))
  clear hf
  have HE2 := Lib.hid (HE1.out.trans (hz.mono HE1.out.size))
  have HW := Lib.hid hw
  clear hz hw hb hr
  go_upto_region 5 with fail
  try rw [HW.out]
  obtain ⟨Bb, hB⟩ : ∃ B, v2.heap.size = B := ⟨_, rfl⟩
  rw [hB] at Xb
  try rw [hB]
  clear hB HW
  have Db := Lib.hid (show Day (eC zb pb jb) from (Day.scaleO Og.out.2 ki).of Ob.out.2)
  obtain ⟨c0, c1, c2, c3, c4, c5⟩ := Xf.out.box
  obtain ⟨d0, d1, d2, d3, d4, d5⟩ := Xg.out.box
  go_wp2_with fail
  clear c0 c1 c2 c3 c4 c5 d0 d1 d2 d3 d4 d5
  with_reducible refine (delay_day af nf capf zf pf jf Of.out.1 ag ng capg zg pg jg Og.out.1 Of.out.2 Og.out.2 _ Xf.out.row Xg.out.row).mono ?_
  rintro e v3 ⟨i1, m1, k1, rfl, hb, hD⟩
  have L1f := Lib.hid (show Bf < v3.heap.size ∧ ∀ y, af = some y → 1 ≤ nf → y.block < v3.heap.size from ⟨Nat.lt_of_lt_of_le Xf.out.box.lt hb.size, fun y h1 h2 => Nat.lt_of_lt_of_le (Xf.out.row.far y h1 h2) hb.size⟩)
  have L1g := Lib.hid (show Bg < v3.heap.size ∧ ∀ y, ag = some y → 1 ≤ ng → y.block < v3.heap.size from ⟨Nat.lt_of_lt_of_le Xg.out.box.lt hb.size, fun y h1 h2 => Nat.lt_of_lt_of_le (Xg.out.row.far y h1 h2) hb.size⟩)
  have L1a := Lib.hid (show Ba < v3.heap.size ∧ ∀ y, aa = some y → 1 ≤ na → y.block < v3.heap.size from ⟨Nat.lt_of_lt_of_le Xa.out.box.lt hb.size, fun y h1 h2 => Nat.lt_of_lt_of_le (Xa.out.row.far y h1 h2) hb.size⟩)
  have L1b := Lib.hid (show Bb < v3.heap.size ∧ ∀ y, ab = some y → 1 ≤ nb → y.block < v3.heap.size from ⟨Nat.lt_of_lt_of_le Xb.out.box.lt hb.size, fun y h1 h2 => Nat.lt_of_lt_of_le (Xb.out.row.far y h1 h2) hb.size⟩)
  obtain ⟨w3, hw⟩ : ∃ w', v3.alloc (.cells #[.bool i1, .int .i64 m1, .int .i64 (k1 : Nat)] 74) = w' := ⟨_, rfl⟩
  have hz : Below w2.heap.size w2 w3 := by rw [← hw]; exact hb.trans ((below_box _).mono hb.size)
  have Xf := Lib.hid (Xf.out.under hz)
  have Xg := Lib.hid (Xg.out.under hz)
  have Xa := Lib.hid (Xa.out.under hz)
  have Xb := Lib.hid (Xb.out.under hz)
  have X1 := Lib.hid (show Cur3 w3 v3.heap.size (.bool i1) (.int .i64 m1) (.int .i64 (k1 : Nat)) by rw [← hw]; exact Cur3.new v3 _ _ _ _)
  have D1 := Lib.hid hD
  clear hD
  have HE3 := Lib.hid (HE2.out.trans (hz.mono HE2.out.size))
  have HW := Lib.hid hw
  clear hz hw hb
  go_upto_region 6 with fail
  try rw [HW.out]
  obtain ⟨B1, hB⟩ : ∃ B, v3.heap.size = B := ⟨_, rfl⟩
  rw [hB] at X1 L1f L1g L1a L1b
  try rw [hB]
  clear hB HW
  have HL1 := Lib.hid (show W.heap.size < B1 by have h1 := HB4.out.size; have h2 := HB_f.out; have h3 := L1f.out.1; omega)
  obtain ⟨c0, c1, c2, c3, c4, c5⟩ := Xa.out.box
  obtain ⟨d0, d1, d2, d3, d4, d5⟩ := Xb.out.box
  go_wp2_with fail
  clear c0 c1 c2 c3 c4 c5 d0 d1 d2 d3 d4 d5
  with_reducible refine (delay_day aa na capa za pa ja Oa.out.1 ab nb capb zb pb jb Ob.out.1 Da.out Db.out _ Xa.out.row Xb.out.row).mono ?_
  rintro e v4 ⟨i2, m2, k2, rfl, hb, hD⟩
  have L2f := Lib.hid (show Bf < v4.heap.size ∧ ∀ y, af = some y → 1 ≤ nf → y.block < v4.heap.size from ⟨Nat.lt_of_lt_of_le Xf.out.box.lt hb.size, fun y h1 h2 => Nat.lt_of_lt_of_le (Xf.out.row.far y h1 h2) hb.size⟩)
  have L2g := Lib.hid (show Bg < v4.heap.size ∧ ∀ y, ag = some y → 1 ≤ ng → y.block < v4.heap.size from ⟨Nat.lt_of_lt_of_le Xg.out.box.lt hb.size, fun y h1 h2 => Nat.lt_of_lt_of_le (Xg.out.row.far y h1 h2) hb.size⟩)
  have L2a := Lib.hid (show Ba < v4.heap.size ∧ ∀ y, aa = some y → 1 ≤ na → y.block < v4.heap.size from ⟨Nat.lt_of_lt_of_le Xa.out.box.lt hb.size, fun y h1 h2 => Nat.lt_of_lt_of_le (Xa.out.row.far y h1 h2) hb.size⟩)
  have L2b := Lib.hid (show Bb < v4.heap.size ∧ ∀ y, ab = some y → 1 ≤ nb → y.block < v4.heap.size from ⟨Nat.lt_of_lt_of_le Xb.out.box.lt hb.size, fun y h1 h2 => Nat.lt_of_lt_of_le (Xb.out.row.far y h1 h2) hb.size⟩)
  have L21 := Lib.hid (show B1 < v4.heap.size from Nat.lt_of_lt_of_le X1.out.lt hb.size)
  obtain ⟨w4, hw⟩ : ∃ w', v4.alloc (.cells #[.bool i2, .int .i64 m2, .int .i64 (k2 : Nat)] 74) = w' := ⟨_, rfl⟩
  have hz : Below w3.heap.size w3 w4 := by rw [← hw]; exact hb.trans ((below_box _).mono hb.size)
  have Xf := Lib.hid (Xf.out.under hz)
  have Xg := Lib.hid (Xg.out.under hz)
  have Xa := Lib.hid (Xa.out.under hz)
  have Xb := Lib.hid (Xb.out.under hz)
  have X1 := Lib.hid (X1.out.below hz)
  have X2 := Lib.hid (show Cur3 w4 v4.heap.size (.bool i2) (.int .i64 m2) (.int .i64 (k2 : Nat)) by rw [← hw]; exact Cur3.new v4 _ _ _ _)
  have D2 := Lib.hid hD
  clear hD
  have HE4 := Lib.hid (HE3.out.trans (hz.mono HE3.out.size))
  have HW := Lib.hid hw
  clear hz hw hb
  go_upto_region 7 with fail
  try rw [HW.out]
  obtain ⟨B2, hB⟩ : ∃ B, v4.heap.size = B := ⟨_, rfl⟩
  rw [hB] at X2 L2f L2g L2a L2b L21
  try rw [hB]
  clear hB HW
  have HL2 := Lib.hid (Nat.lt_trans HL1.out L21.out)
  have HEA := Lib.hid (show eC za pa ja = fun t => omap (fun x => ki * x) (eC zf pf jf t) from funext Oa.out.2)
  have HEB := Lib.hid (show eC zb pb jb = fun t => omap (fun x => ki * x) (eC zg pg jg t) from funext Ob.out.2)
  obtain ⟨rfl, rfl, rfl⟩ : i1 = i2 ∧ m1 = m2 ∧ k1 = k2 := by
    obtain ⟨n1, hn1, d1, h1, h2⟩ := D1.out
    have := scale_delay HK.out.1 d1
    rw [← HEA.out, ← HEB.out] at this
    exact DevD.unique (up_eC Ob.out.1) ⟨n1, hn1, this, h1, h2⟩ D2.out
  clear D1 D2
  obtain ⟨g0, g1, g2, g3, g4, g5⟩ := X1.out
  obtain ⟨h0, h1, h2, h3, h4, h5⟩ := X2.out
  go_upto_region 9 with fail
  clear g0 g1 g2 g3 g4 g5 h0 h1 h2 h3 h4 h5
  obtain ⟨c0, c1, c2, c3, c4, c5⟩ := Xf.out.box
  obtain ⟨d0, d1, d2, d3, d4, d5⟩ := Xg.out.box
  go_wp2_with fail
  clear c0 c1 c2 c3 c4 c5 d0 d1 d2 d3 d4 d5
  with_reducible refine (backlog_day af nf capf zf pf jf Of.out.1 ag ng capg zg pg jg Og.out.1 Of.out.2 Og.out.2 _ Xf.out.row Xg.out.row).mono ?_
  rintro e v5 ⟨i3, m3, k3, rfl, hb, hD⟩
  obtain ⟨w5, hw⟩ : ∃ w', ((((v5.setCell ⟨B1, 0, none⟩ (.bool i3)).setCell ⟨B1, 1, none⟩ (.int .i64 m3)).setCell ⟨B1, 2, none⟩ (.int .i64 (k3 : Nat)))) = w' := ⟨_, rfl⟩
  obtain ⟨s0, s1, s2, s3, s4, s5⟩ := X1.out.below hb
  have Xf := Lib.hid (show Bx w5 Bf af nf capf pf jf zf by rw [← hw]; exact (((Xf.out.under hb).away (Nat.ne_of_lt L1f.out.1) L1f.out.2 _ _).away (Nat.ne_of_lt L1f.out.1) L1f.out.2 _ _).away (Nat.ne_of_lt L1f.out.1) L1f.out.2 _ _)
  have Xg := Lib.hid (show Bx w5 Bg ag ng capg pg jg zg by rw [← hw]; exact (((Xg.out.under hb).away (Nat.ne_of_lt L1g.out.1) L1g.out.2 _ _).away (Nat.ne_of_lt L1g.out.1) L1g.out.2 _ _).away (Nat.ne_of_lt L1g.out.1) L1g.out.2 _ _)
  have Xa := Lib.hid (show Bx w5 Ba aa na capa pa ja za by rw [← hw]; exact (((Xa.out.under hb).away (Nat.ne_of_lt L1a.out.1) L1a.out.2 _ _).away (Nat.ne_of_lt L1a.out.1) L1a.out.2 _ _).away (Nat.ne_of_lt L1a.out.1) L1a.out.2 _ _)
  have Xb := Lib.hid (show Bx w5 Bb ab nb capb pb jb zb by rw [← hw]; exact (((Xb.out.under hb).away (Nat.ne_of_lt L1b.out.1) L1b.out.2 _ _).away (Nat.ne_of_lt L1b.out.1) L1b.out.2 _ _).away (Nat.ne_of_lt L1b.out.1) L1b.out.2 _ _)
  have X2 := Lib.hid (show Cur3 w5 B2 (.bool i1) (.int .i64 m1) (.int .i64 (k1 : Nat)) by rw [← hw]; exact (((X2.out.below hb).other (Nat.ne_of_gt L21.out) _ _).other (Nat.ne_of_gt L21.out) _ _).other (Nat.ne_of_gt L21.out) _ _)
  have X1 := Lib.hid (show Cur3 w5 B1 (.bool i3) (.int .i64 m3) (.int .i64 (k3 : Nat)) by rw [← hw]; exact (X1.out.below hb).set _ _ _)
  have D1 := Lib.hid hD
  clear hD
  have HE5 := Lib.hid (show Below W.heap.size W w5 by rw [← hw]; exact below_set3 (HE4.out.trans (hb.mono HE4.out.size)) (Nat.le_of_lt HL1.out) _ _ _)
  have HW := Lib.hid hw
  clear hw hb
  go_upto_region 10 with fail
  try rw [HW.out]
  clear HW s0 s1 s2 s3 s4 s5
  obtain ⟨c0, c1, c2, c3, c4, c5⟩ := Xa.out.box
  obtain ⟨d0, d1, d2, d3, d4, d5⟩ := Xb.out.box
  go_wp2_with fail
  clear c0 c1 c2 c3 c4 c5 d0 d1 d2 d3 d4 d5
  with_reducible refine (backlog_day aa na capa za pa ja Oa.out.1 ab nb capb zb pb jb Ob.out.1 Da.out Db.out _ Xa.out.row Xb.out.row).mono ?_
  rintro e v6 ⟨i4, m4, k4, rfl, hb, hD⟩
  obtain ⟨w6, hw⟩ : ∃ w', ((((v6.setCell ⟨B2, 0, none⟩ (.bool i4)).setCell ⟨B2, 1, none⟩ (.int .i64 m4)).setCell ⟨B2, 2, none⟩ (.int .i64 (k4 : Nat)))) = w' := ⟨_, rfl⟩
  obtain ⟨s0, s1, s2, s3, s4, s5⟩ := X2.out.below hb
  have Xf := Lib.hid (show Bx w6 Bf af nf capf pf jf zf by rw [← hw]; exact (((Xf.out.under hb).away (Nat.ne_of_lt L2f.out.1) L2f.out.2 _ _).away (Nat.ne_of_lt L2f.out.1) L2f.out.2 _ _).away (Nat.ne_of_lt L2f.out.1) L2f.out.2 _ _)
  have Xg := Lib.hid (show Bx w6 Bg ag ng capg pg jg zg by rw [← hw]; exact (((Xg.out.under hb).away (Nat.ne_of_lt L2g.out.1) L2g.out.2 _ _).away (Nat.ne_of_lt L2g.out.1) L2g.out.2 _ _).away (Nat.ne_of_lt L2g.out.1) L2g.out.2 _ _)
  have Xa := Lib.hid (show Bx w6 Ba aa na capa pa ja za by rw [← hw]; exact (((Xa.out.under hb).away (Nat.ne_of_lt L2a.out.1) L2a.out.2 _ _).away (Nat.ne_of_lt L2a.out.1) L2a.out.2 _ _).away (Nat.ne_of_lt L2a.out.1) L2a.out.2 _ _)
  have Xb := Lib.hid (show Bx w6 Bb ab nb capb pb jb zb by rw [← hw]; exact (((Xb.out.under hb).away (Nat.ne_of_lt L2b.out.1) L2b.out.2 _ _).away (Nat.ne_of_lt L2b.out.1) L2b.out.2 _ _).away (Nat.ne_of_lt L2b.out.1) L2b.out.2 _ _)
  have X1 := Lib.hid (show Cur3 w6 B1 (.bool i3) (.int .i64 m3) (.int .i64 (k3 : Nat)) by rw [← hw]; exact (((X1.out.below hb).other (Nat.ne_of_lt L21.out) _ _).other (Nat.ne_of_lt L21.out) _ _).other (Nat.ne_of_lt L21.out) _ _)
  have X2 := Lib.hid (show Cur3 w6 B2 (.bool i4) (.int .i64 m4) (.int .i64 (k4 : Nat)) by rw [← hw]; exact (X2.out.below hb).set _ _ _)
  have D2 := Lib.hid hD
  clear hD
  have HE6 := Lib.hid (show Below W.heap.size W w6 by rw [← hw]; exact below_set3 (HE5.out.trans (hb.mono HE5.out.size)) (Nat.le_of_lt HL2.out) _ _ _)
  have HW := Lib.hid hw
  clear hw hb
  go_upto_region 11 with fail
  try rw [HW.out]
  clear HW s0 s1 s2 s3 s4 s5
  obtain ⟨mk, hmk⟩ : ∃ mk, m3 * ki = mk := ⟨_, rfl⟩
  have hmb : 0 ≤ m3 ∧ m3 ≤ 1125899906842624 := ⟨D1.out.2.2.1, D1.out.2.2.2⟩
  have hkb := HK.out
  have hmkb : 0 ≤ mk ∧ mk ≤ 10133099161583616 := by
    rw [← hmk]
    exact ⟨Int.mul_nonneg hmb.1 (by omega), Int.le_trans (Int.mul_le_mul hmb.2 hkb.2 (by omega) (by omega)) (by decide)⟩
  obtain ⟨rfl, rfl, rfl⟩ : i3 = i4 ∧ mk = m4 ∧ k3 = k4 := by
    have h1 := scale_back HK.out.1 D1.out.1
    have h2 := D2.out.1
    rw [← HEA.out, ← HEB.out] at h1
    obtain ⟨e1, e2, e3⟩ := h1.unique h2
    exact ⟨e1, by rw [← hmk, Int.mul_comm]; exact e2, e3⟩
  have hmkw : IntKind.i64.wrap mk = mk := IntWalk.i64_in _ ⟨by omega, by omega⟩
  clear D1 D2 hmb hkb
  obtain ⟨g0, g1, g2, g3, g4, g5⟩ := X1.out
  have NE := Lib.hid (And.intro (Nat.ne_of_lt L21.out) (Nat.ne_of_gt L21.out))
  obtain ⟨w6b, hw⟩ : ∃ w', w6.setCell ⟨B1, 1, none⟩ (.int .i64 mk) = w' := ⟨_, rfl⟩
  have X1 := Lib.hid (show Cur3 w6b B1 (.bool i3) (.int .i64 mk) (.int .i64 (k3 : Nat)) by rw [← hw]; exact X1.out.set1 _)
  have X2 := Lib.hid (show Cur3 w6b B2 (.bool i3) (.int .i64 mk) (.int .i64 (k3 : Nat)) by rw [← hw]; exact X2.out.other NE.out.2 _ _)
  have Xf := Lib.hid (show Bx w6b Bf af nf capf pf jf zf by rw [← hw]; exact Xf.out.away (Nat.ne_of_lt L1f.out.1) L1f.out.2 _ _)
  have Xg := Lib.hid (show Bx w6b Bg ag ng capg pg jg zg by rw [← hw]; exact Xg.out.away (Nat.ne_of_lt L1g.out.1) L1g.out.2 _ _)
  have Xa := Lib.hid (show Bx w6b Ba aa na capa pa ja za by rw [← hw]; exact Xa.out.away (Nat.ne_of_lt L1a.out.1) L1a.out.2 _ _)
  have Xb := Lib.hid (show Bx w6b Bb ab nb capb pb jb zb by rw [← hw]; exact Xb.out.away (Nat.ne_of_lt L1b.out.1) L1b.out.2 _ _)
  have HE6b := Lib.hid (show Below W.heap.size W w6b by rw [← hw]; exact HE6.out.setCell (p := ⟨B1, 1, none⟩) (by have := HL1.out; show W.heap.size ≤ B1; omega) _)
  have HW := Lib.hid hw
  clear hw
  go_upto_region 12 with fail
  try rw [HW.out]
  clear g0 g1 g2 g3 g4 g5 HW hmk hmkb hmkw
  obtain ⟨g0, g1, g2, g3, g4, g5⟩ := X1.out
  obtain ⟨h0, h1, h2, h3, h4, h5⟩ := X2.out
  go_upto_region 14 with fail
  clear g0 g1 g2 g3 g4 g5 h0 h1 h2 h3 h4 h5
  obtain ⟨c0, c1, c2, c3, c4, c5⟩ := Xf.out.box
  obtain ⟨d0, d1, d2, d3, d4, d5⟩ := Xg.out.box
  go_wp2_with fail
  clear c0 c1 c2 c3 c4 c5 d0 d1 d2 d3 d4 d5
  with_reducible refine (peak_day af nf capf zf pf jf Of.out.1 ag ng capg zg pg jg Og.out.1 Of.out.2 Og.out.2 _ Xf.out.row Xg.out.row).mono ?_
  rintro e v7 ⟨i5, m5, k5, rfl, hb, hD⟩
  obtain ⟨w7, hw⟩ : ∃ w', ((((v7.setCell ⟨B1, 0, none⟩ (.bool i5)).setCell ⟨B1, 1, none⟩ (.int .i64 m5)).setCell ⟨B1, 2, none⟩ (.int .i64 (k5 : Nat)))) = w' := ⟨_, rfl⟩
  obtain ⟨s0, s1, s2, s3, s4, s5⟩ := X1.out.below hb
  have Xf := Lib.hid (show Bx w7 Bf af nf capf pf jf zf by rw [← hw]; exact (((Xf.out.under hb).away (Nat.ne_of_lt L1f.out.1) L1f.out.2 _ _).away (Nat.ne_of_lt L1f.out.1) L1f.out.2 _ _).away (Nat.ne_of_lt L1f.out.1) L1f.out.2 _ _)
  have Xg := Lib.hid (show Bx w7 Bg ag ng capg pg jg zg by rw [← hw]; exact (((Xg.out.under hb).away (Nat.ne_of_lt L1g.out.1) L1g.out.2 _ _).away (Nat.ne_of_lt L1g.out.1) L1g.out.2 _ _).away (Nat.ne_of_lt L1g.out.1) L1g.out.2 _ _)
  have Xa := Lib.hid (show Bx w7 Ba aa na capa pa ja za by rw [← hw]; exact (((Xa.out.under hb).away (Nat.ne_of_lt L1a.out.1) L1a.out.2 _ _).away (Nat.ne_of_lt L1a.out.1) L1a.out.2 _ _).away (Nat.ne_of_lt L1a.out.1) L1a.out.2 _ _)
  have Xb := Lib.hid (show Bx w7 Bb ab nb capb pb jb zb by rw [← hw]; exact (((Xb.out.under hb).away (Nat.ne_of_lt L1b.out.1) L1b.out.2 _ _).away (Nat.ne_of_lt L1b.out.1) L1b.out.2 _ _).away (Nat.ne_of_lt L1b.out.1) L1b.out.2 _ _)
  have X2 := Lib.hid (show Cur3 w7 B2 (.bool i3) (.int .i64 mk) (.int .i64 (k3 : Nat)) by rw [← hw]; exact (((X2.out.below hb).other (Nat.ne_of_gt L21.out) _ _).other (Nat.ne_of_gt L21.out) _ _).other (Nat.ne_of_gt L21.out) _ _)
  have X1 := Lib.hid (show Cur3 w7 B1 (.bool i5) (.int .i64 m5) (.int .i64 (k5 : Nat)) by rw [← hw]; exact (X1.out.below hb).set _ _ _)
  have D1 := Lib.hid hD
  clear hD
  have HE7 := Lib.hid (show Below W.heap.size W w7 by rw [← hw]; exact below_set3 (HE6b.out.trans (hb.mono HE6b.out.size)) (Nat.le_of_lt HL1.out) _ _ _)
  have HW := Lib.hid hw
  clear hw hb
  go_upto_region 15 with fail
  try rw [HW.out]
  clear HW s0 s1 s2 s3 s4 s5
  obtain ⟨c0, c1, c2, c3, c4, c5⟩ := Xa.out.box
  obtain ⟨d0, d1, d2, d3, d4, d5⟩ := Xb.out.box
  go_wp2_with fail
  clear c0 c1 c2 c3 c4 c5 d0 d1 d2 d3 d4 d5
  with_reducible refine (peak_day aa na capa za pa ja Oa.out.1 ab nb capb zb pb jb Ob.out.1 Da.out Db.out _ Xa.out.row Xb.out.row).mono ?_
  rintro e v8 ⟨i6, m6, k6, rfl, hb, hD⟩
  obtain ⟨w8, hw⟩ : ∃ w', ((((v8.setCell ⟨B2, 0, none⟩ (.bool i6)).setCell ⟨B2, 1, none⟩ (.int .i64 m6)).setCell ⟨B2, 2, none⟩ (.int .i64 (k6 : Nat)))) = w' := ⟨_, rfl⟩
  obtain ⟨s0, s1, s2, s3, s4, s5⟩ := X2.out.below hb
  have Xf := Lib.hid (show Bx w8 Bf af nf capf pf jf zf by rw [← hw]; exact (((Xf.out.under hb).away (Nat.ne_of_lt L2f.out.1) L2f.out.2 _ _).away (Nat.ne_of_lt L2f.out.1) L2f.out.2 _ _).away (Nat.ne_of_lt L2f.out.1) L2f.out.2 _ _)
  have Xg := Lib.hid (show Bx w8 Bg ag ng capg pg jg zg by rw [← hw]; exact (((Xg.out.under hb).away (Nat.ne_of_lt L2g.out.1) L2g.out.2 _ _).away (Nat.ne_of_lt L2g.out.1) L2g.out.2 _ _).away (Nat.ne_of_lt L2g.out.1) L2g.out.2 _ _)
  have Xa := Lib.hid (show Bx w8 Ba aa na capa pa ja za by rw [← hw]; exact (((Xa.out.under hb).away (Nat.ne_of_lt L2a.out.1) L2a.out.2 _ _).away (Nat.ne_of_lt L2a.out.1) L2a.out.2 _ _).away (Nat.ne_of_lt L2a.out.1) L2a.out.2 _ _)
  have Xb := Lib.hid (show Bx w8 Bb ab nb capb pb jb zb by rw [← hw]; exact (((Xb.out.under hb).away (Nat.ne_of_lt L2b.out.1) L2b.out.2 _ _).away (Nat.ne_of_lt L2b.out.1) L2b.out.2 _ _).away (Nat.ne_of_lt L2b.out.1) L2b.out.2 _ _)
  have X1 := Lib.hid (show Cur3 w8 B1 (.bool i5) (.int .i64 m5) (.int .i64 (k5 : Nat)) by rw [← hw]; exact (((X1.out.below hb).other (Nat.ne_of_lt L21.out) _ _).other (Nat.ne_of_lt L21.out) _ _).other (Nat.ne_of_lt L21.out) _ _)
  have X2 := Lib.hid (show Cur3 w8 B2 (.bool i6) (.int .i64 m6) (.int .i64 (k6 : Nat)) by rw [← hw]; exact (X2.out.below hb).set _ _ _)
  have D2 := Lib.hid hD
  clear hD
  have HE8 := Lib.hid (show Below W.heap.size W w8 by rw [← hw]; exact below_set3 (HE7.out.trans (hb.mono HE7.out.size)) (Nat.le_of_lt HL2.out) _ _ _)
  have HW := Lib.hid hw
  clear hw hb
  go_upto_region 16 with fail
  try rw [HW.out]
  clear HW s0 s1 s2 s3 s4 s5
  obtain ⟨mk, hmk⟩ : ∃ mk, m5 * ki = mk := ⟨_, rfl⟩
  have hmb : 0 ≤ m5 ∧ m5 ≤ 1125899906842624 := ⟨D1.out.2.2.1, D1.out.2.2.2⟩
  have hkb := HK.out
  have hmkb : 0 ≤ mk ∧ mk ≤ 10133099161583616 := by
    rw [← hmk]
    exact ⟨Int.mul_nonneg hmb.1 (by omega), Int.le_trans (Int.mul_le_mul hmb.2 hkb.2 (by omega) (by omega)) (by decide)⟩
  obtain ⟨rfl, rfl, rfl⟩ : i5 = i6 ∧ mk = m6 ∧ k5 = k6 := by
    have h1 := scale_back HK.out.1 D1.out.1
    have h2 := D2.out.1
    have e1 : (fun t => eC za pa ja (t + 1)) = fun t => omap (fun x => ki * x) (eC zf pf jf (t + 1)) := by rw [HEA.out]
    rw [e1] at h2
    rw [← HEB.out] at h1
    obtain ⟨e1, e2, e3⟩ := h1.unique h2
    exact ⟨e1, by rw [← hmk, Int.mul_comm]; exact e2, e3⟩
  have hmkw : IntKind.i64.wrap mk = mk := IntWalk.i64_in _ ⟨by omega, by omega⟩
  clear D1 D2 hmb hkb
  obtain ⟨g0, g1, g2, g3, g4, g5⟩ := X1.out
  have NE := Lib.hid (And.intro (Nat.ne_of_lt L21.out) (Nat.ne_of_gt L21.out))
  obtain ⟨w8b, hw⟩ : ∃ w', w8.setCell ⟨B1, 1, none⟩ (.int .i64 mk) = w' := ⟨_, rfl⟩
  have X1 := Lib.hid (show Cur3 w8b B1 (.bool i5) (.int .i64 mk) (.int .i64 (k5 : Nat)) by rw [← hw]; exact X1.out.set1 _)
  have X2 := Lib.hid (show Cur3 w8b B2 (.bool i5) (.int .i64 mk) (.int .i64 (k5 : Nat)) by rw [← hw]; exact X2.out.other NE.out.2 _ _)
  have Xf := Lib.hid (show Bx w8b Bf af nf capf pf jf zf by rw [← hw]; exact Xf.out.away (Nat.ne_of_lt L1f.out.1) L1f.out.2 _ _)
  have Xg := Lib.hid (show Bx w8b Bg ag ng capg pg jg zg by rw [← hw]; exact Xg.out.away (Nat.ne_of_lt L1g.out.1) L1g.out.2 _ _)
  have Xa := Lib.hid (show Bx w8b Ba aa na capa pa ja za by rw [← hw]; exact Xa.out.away (Nat.ne_of_lt L1a.out.1) L1a.out.2 _ _)
  have Xb := Lib.hid (show Bx w8b Bb ab nb capb pb jb zb by rw [← hw]; exact Xb.out.away (Nat.ne_of_lt L1b.out.1) L1b.out.2 _ _)
  have HE8b := Lib.hid (show Below W.heap.size W w8b by rw [← hw]; exact HE8.out.setCell (p := ⟨B1, 1, none⟩) (by have := HL1.out; show W.heap.size ≤ B1; omega) _)
  have HW := Lib.hid hw
  clear hw
  go_upto_region 17 with fail
  try rw [HW.out]
  clear g0 g1 g2 g3 g4 g5 HW hmk hmkb hmkw
  obtain ⟨g0, g1, g2, g3, g4, g5⟩ := X1.out
  obtain ⟨h0, h1, h2, h3, h4, h5⟩ := X2.out
  go_wp2_with fail
  refine (awake10 _).mono ?_
  rintro e y9 ⟨rfl, hb⟩
  have HBZ := Lib.hid (HE8b.out.trans (hb.mono HE8b.out.size))
  clear hb
  go_wp2_with fail
  go_ret
  exact ⟨rfl, HBZ.out⟩

end Go.Proofs.Ytjjaaknjdmijbaa
