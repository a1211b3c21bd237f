/- The walk of DeviationOnce. By the verifier's side. -/
import Derived.Test.YtjjaaknjdmijbaaQaDevH
import Derived.Test.YtjjaaknjdmijbaaQaConER
import Derived.Test.YtjjaaknjdmijbaaQaDecD
namespace Go.Proofs.Ytjjaaknjdmijbaa
open Go.RowKit
set_option linter.unusedSimpArgs false
set_option linter.unusedVariables false

set_option maxRecDepth 100000 in
set_option maxHeartbeats 6400000 in
theorem deviationOnce_walk (W : World) (a : Option Addr) (n cap : Nat) (hrow : RowAt W a n cap) :
    Calls Try.prog 12 #[.slice a n cap] W fun e w' => e = .returned (.bool true) ∧ Below W.heap.size W w' := by
  have HR := Lib.hid hrow
  clear hrow
  go_enter Try.func12, Try.ntmps12
  go_wp2_with fail
  refine (new_any a n cap _ HR.out).mono ?_
  rintro e u1 ⟨rfl, hb1, hz1, ra, rn, rc, hs1⟩
  have HB1 := Lib.hid hb1
  have HS1 := Lib.hid hs1
  have Z1 := Lib.hid hz1
  clear hb1 hz1 hs1
  go_wp2_with fail
  refine (zero_any3 4 (by omega) (by omega) _ ra rn rc _ HS1.out).mono ?_
  rintro e u2 ⟨af, nf, capf, zf, pf, jf, rfl, hs, he, hr, hg, hn, h0, hsm, hx⟩
  have Of := Lib.hid (And.intro hg (day_zero hn hsm))
  have Ff := Lib.hid (And.intro hn (And.intro h0 hsm))
  have Xf := Lib.hid (show ∀ x, af = some x → ¬ x.block = W.heap.size from fun x h => by have := hx x h; have := Z1.out; omega)
  have Rf := Lib.hid hr
  have HS2 := Lib.hid hs
  have HB2 := Lib.hid (HB1.out.trans (he.below (Nat.le_refl _) HB1.out.size))
  clear hs he hg hn h0 hsm hx hr
  go_wp2_with fail
  refine (zero_any3 4 (by omega) (by omega) _ ra rn rc _ HS2.out).mono ?_
  rintro e u3 ⟨ag, ng, capg, zg, pg, jg, rfl, hs, he, hr, hg, hn, h0, hsm, hx⟩
  have Og := Lib.hid (And.intro hg (day_zero hn hsm))
  have Fg := Lib.hid (And.intro hn (And.intro h0 hsm))
  have Rf := Lib.hid (Rf.out.apart he Xf.out)
  have Xg := Lib.hid (show ∀ x, ag = some x → ¬ x.block = W.heap.size from fun x h => by have := hx x h; have h9 : W.heap.size < u2.heap.size := lt_of_cell (src_cell HS2.out); omega)
  have Rg := Lib.hid hr
  have HS3 := Lib.hid hs
  have HB3 := Lib.hid (HB2.out.trans (he.below (Nat.le_refl _) HB2.out.size))
  clear hs he hg hn h0 hsm hx hr
  go_wp2_with fail
  refine (zero_any3 4 (by omega) (by omega) _ ra rn rc _ HS3.out).mono ?_
  rintro e u4 ⟨ah, nh, caph, zh, ph, jh, rfl, hs, he, hr, hg, hn, h0, hsm, hx⟩
  have Oh := Lib.hid (And.intro hg (day_zero hn hsm))
  have Fh := Lib.hid (And.intro hn (And.intro h0 hsm))
  have Rf := Lib.hid (Rf.out.apart he Xf.out)
  have Rg := Lib.hid (Rg.out.apart he Xg.out)
  have Xh := Lib.hid (show ∀ x, ah = some x → ¬ x.block = W.heap.size from fun x h => by have := hx x h; have h9 : W.heap.size < u3.heap.size := lt_of_cell (src_cell HS3.out); omega)
  have Rh := Lib.hid hr
  have HS4 := Lib.hid hs
  have HB4 := Lib.hid (HB3.out.trans (he.below (Nat.le_refl _) HB3.out.size))
  clear hs he hg hn h0 hsm hx hr
  obtain ⟨y0, hy0⟩ : ∃ w', u4.alloc (.cells #[.slice af nf capf, .int .i64 pf, .int .i64 jf] 24) = w' := ⟨_, rfl⟩
  have hz0 : Below u4.heap.size u4 y0 := by rw [← hy0]; exact below_box _
  have sz0 : y0.heap.size = u4.heap.size + 1 := by rw [← hy0]; simp
  obtain ⟨y1, hy1⟩ : ∃ w', y0.alloc (.cells #[.slice ag ng capg, .int .i64 pg, .int .i64 jg] 24) = w' := ⟨_, rfl⟩
  have hz1 : Below y0.heap.size y0 y1 := by rw [← hy1]; exact below_box _
  have sz1 : y1.heap.size = y0.heap.size + 1 := by rw [← hy1]; simp
  obtain ⟨y2, hy2⟩ : ∃ w', y1.alloc (.cells #[.slice ah nh caph, .int .i64 ph, .int .i64 jh] 24) = w' := ⟨_, rfl⟩
  have hz2 : Below y1.heap.size y1 y2 := by rw [← hy2]; exact below_box _
  have sz2 : y2.heap.size = y1.heap.size + 1 := by rw [← hy2]; simp
  have Uf : Bx y0 u4.heap.size af nf capf pf jf zf := by rw [← hy0]; exact Bx.new Rf.out
  have Uf := Uf.under hz1
  have Uf := Uf.under hz2
  have Ug : Bx y1 y0.heap.size ag ng capg pg jg zg := by rw [← hy1]; exact Bx.new (Rg.out.under hz0)
  have Ug := Ug.under hz2
  have Uh : Bx y2 y1.heap.size ah nh caph ph jh zh := by rw [← hy2]; exact Bx.new ((Rh.out.under hz0).under hz1)
  have HC0 := Lib.hid (HB4.out.trans (hz0.mono HB4.out.size))
  have HC1 := Lib.hid (HC0.out.trans (hz1.mono HC0.out.size))
  have HC2 := Lib.hid (HC1.out.trans (hz2.mono HC1.out.size))
  have HY := Lib.hid (And.intro hy0 ( And.intro hy1 (hy2)))
  go_upto_region 3 with fail
  try rw [HY.out.1]
  try rw [HY.out.2.1]
  try rw [HY.out.2.2]
  clear HY
  obtain ⟨Bf, hB⟩ : ∃ B, u4.heap.size = B := ⟨_, rfl⟩
  rw [hB] at Uf sz0
  try rw [hB]
  have HB_f := Lib.hid hB
  clear hB
  rw [sz0] at Ug sz1
  obtain ⟨Bg, hB⟩ : ∃ B, Bf + 1 = B := ⟨_, rfl⟩
  rw [hB] at Ug sz1
  try rw [hB]
  have HB_g := Lib.hid hB
  clear hB
  rw [sz1] at Uh sz2
  obtain ⟨Bh, hB⟩ : ∃ B, Bg + 1 = B := ⟨_, rfl⟩
  rw [hB] at Uh sz2
  try rw [hB]
  have HB_h := Lib.hid hB
  clear hB
  have Xf := Lib.hid Uf
  have Xg := Lib.hid Ug
  have Xh := Lib.hid Uh
  clear Uf hz0 sz0 hy0 Ug hz1 sz1 hy1 Uh hz2 sz2 hy2 Rf Rg Rh HS1 HS2 HS3 HS4 Z1
  have HZ := Lib.hid (show atC zg pg jg 0 = 0 from by rw [atC_lt (by have := Og.out.1.p1; have := Og.out.1.p3; omega)]; exact Fg.out.2.1)
  obtain ⟨c0, c1, c2, c3, c4, c5⟩ := Xg.out.box
  obtain ⟨d0, d1, d2, d3, d4, d5⟩ := Xh.out.box
  go_wp2_with fail
  clear c0 c1 c2 c3 c4 c5 d0 d1 d2 d3 d4 d5
  with_reducible refine ((cof_day ag ng capg zg pg jg Og.out.1 ah nh caph zh ph jh Oh.out.1 Og.out.2 Oh.out.2 _ Xg.out.row Xh.out.row).mono fun _ _ h => h.z3).mono ?_
  rintro e v1 ⟨ac, nc, capc, zc, pc, jc, ec, rfl, hb, hr, hm⟩
  obtain ⟨w1, hw⟩ : ∃ w', v1.alloc (.cells #[.slice ac nc capc, .int .i64 pc, .int .i64 jc] 24) = w' := ⟨_, rfl⟩
  have hz : Below y2.heap.size y2 w1 := by rw [← hw]; exact hb.trans ((below_box _).mono hb.size)
  have Xf := Lib.hid (Xf.out.under hz)
  have Xg := Lib.hid (Xg.out.under hz)
  have Xh := Lib.hid (Xh.out.under hz)
  have Xc := Lib.hid (show Cur3 w1 v1.heap.size (.slice ac nc capc) (.int .i64 pc) (.int .i64 jc) ∧ RowZ w1 ac nc capc zc by rw [← hw]; exact ⟨Cur3.new v1 _ _ _ _, hr.alloc _⟩)
  have MC := Lib.hid hm
  clear hm
  have HE1 := Lib.hid (HC2.out.trans (hz.mono HC2.out.size))
  have HW := Lib.hid hw
  clear hz hw hb hr
  go_upto_region 4 with fail
  try rw [HW.out]
  obtain ⟨Bc, hB⟩ : ∃ B, v1.heap.size = B := ⟨_, rfl⟩
  rw [hB] at Xc
  try rw [hB]
  clear hB HW
  obtain ⟨c0, c1, c2, c3, c4, c5⟩ := Xf.out.box
  obtain ⟨d0, d1, d2, d3, d4, d5⟩ := Xg.out.box
  go_wp2_with fail
  clear c0 c1 c2 c3 c4 c5 d0 d1 d2 d3 d4 d5
  with_reducible refine ((dof_day af nf capf zf pf jf Of.out.1 ag ng capg zg pg jg Og.out.1 HZ.out Of.out.2 Og.out.2 _ Xf.out.row Xg.out.row).mono fun _ _ h => h.z3).mono ?_
  rintro e v2 ⟨ax, nx, capx, zx, px, jx, ex, rfl, hb, hr, hm⟩
  obtain ⟨w2, hw⟩ : ∃ w', v2.alloc (.cells #[.slice ax nx capx, .int .i64 px, .int .i64 jx] 24) = w' := ⟨_, rfl⟩
  have hz : Below w1.heap.size w1 w2 := by rw [← hw]; exact hb.trans ((below_box _).mono hb.size)
  have Xf := Lib.hid (Xf.out.under hz)
  have Xg := Lib.hid (Xg.out.under hz)
  have Xh := Lib.hid (Xh.out.under hz)
  have Xc := Lib.hid (And.intro (Xc.out.1.below hz) (Xc.out.2.under hz))
  have Xx := Lib.hid (show Cur3 w2 v2.heap.size (.slice ax nx capx) (.int .i64 px) (.int .i64 jx) ∧ RowZ w2 ax nx capx zx by rw [← hw]; exact ⟨Cur3.new v2 _ _ _ _, hr.alloc _⟩)
  have MX := Lib.hid hm
  clear hm
  have HE2 := Lib.hid (HE1.out.trans (hz.mono HE1.out.size))
  have HW := Lib.hid hw
  clear hz hw hb hr
  go_upto_region 5 with fail
  try rw [HW.out]
  obtain ⟨Bx, hB⟩ : ∃ B, v2.heap.size = B := ⟨_, rfl⟩
  rw [hB] at Xx
  try rw [hB]
  clear hB HW
  rcases MC.out with ⟨rfl, qc, rfl, hfc⟩ | rfl
  rotate_left
  · rcases MX.out with ⟨rfl, qx, rfl, hfx⟩ | rfl
    · clear hfx
      go_wp2_with fail
      refine (awake10 _).mono ?_
      rintro e y9 ⟨rfl, hb⟩
      have HBZ := Lib.hid (HE2.out.trans (hb.mono HE2.out.size))
      clear hb
      go_wp2_with fail
      go_ret
      exact ⟨rfl, HBZ.out⟩
    · go_wp2_with fail
      refine (awake10 _).mono ?_
      rintro e y9 ⟨rfl, hb⟩
      have HBZ := Lib.hid (HE2.out.trans (hb.mono HE2.out.size))
      clear hb
      go_wp2_with fail
      go_ret
      exact ⟨rfl, HBZ.out⟩
  rcases MX.out with ⟨rfl, qx, rfl, hfx⟩ | rfl
  rotate_left
  · clear hfc
    go_wp2_with fail
    refine (awake10 _).mono ?_
    rintro e y9 ⟨rfl, hb⟩
    have HBZ := Lib.hid (HE2.out.trans (hb.mono HE2.out.size))
    clear hb
    go_wp2_with fail
    go_ret
    exact ⟨rfl, HBZ.out⟩
  have Oc := Lib.hid (And.intro hfc.1 (hfc.2.1 : ∀ t, eC zc qc jc t = eConv zg pg jg zh ph jh t))
  have Ox := Lib.hid (And.intro hfx.1 (hfx.2.1 : ∀ t, eC zx qx jx t = eDec zf pf jf zg pg jg t))
  have Dc := Lib.hid (show Day (eC zc qc jc) from (conv_day Og.out.1 Oh.out.1 Og.out.2 Oh.out.2).of Oc.out.2)
  have Dx := Lib.hid (show Day (eC zx qx jx) from (dec_day Of.out.1 Og.out.1 HZ.out Of.out.2 Og.out.2).of Ox.out.2)
  clear hfc hfx MC MX
  obtain ⟨c0, c1, c2, c3, c4, c5⟩ := Xf.out.box
  obtain ⟨d0, d1, d2, d3, d4, d5⟩ := Xc.out.1
  go_wp2_with fail
  clear c0 c1 c2 c3 c4 c5 d0 d1 d2 d3 d4 d5
  with_reducible refine (delay_day af nf capf zf pf jf Of.out.1 ac nc capc zc qc jc Oc.out.1 Of.out.2 Dc.out _ Xf.out.row Xc.out.2).mono ?_
  rintro e v3 ⟨i1, m1, k1, rfl, hb, hD⟩
  obtain ⟨w3, hw⟩ : ∃ w', v3.alloc (.cells #[.bool i1, .int .i64 m1, .int .i64 (k1 : Nat)] 74) = w' := ⟨_, rfl⟩
  have hz : Below w2.heap.size w2 w3 := by rw [← hw]; exact hb.trans ((below_box _).mono hb.size)
  have Xf := Lib.hid (Xf.out.under hz)
  have Xg := Lib.hid (Xg.out.under hz)
  have Xh := Lib.hid (Xh.out.under hz)
  have Xc := Lib.hid (And.intro (Xc.out.1.below hz) (Xc.out.2.under hz))
  have Xx := Lib.hid (And.intro (Xx.out.1.below hz) (Xx.out.2.under hz))
  have X1 := Lib.hid (show Cur3 w3 v3.heap.size (.bool i1) (.int .i64 m1) (.int .i64 (k1 : Nat)) by rw [← hw]; exact Cur3.new v3 _ _ _ _)
  have D1 := Lib.hid hD
  clear hD
  have HE3 := Lib.hid (HE2.out.trans (hz.mono HE2.out.size))
  have HW := Lib.hid hw
  clear hz hw hb
  go_upto_region 8 with fail
  try rw [HW.out]
  obtain ⟨B1, hB⟩ : ∃ B, v3.heap.size = B := ⟨_, rfl⟩
  rw [hB] at X1
  try rw [hB]
  clear hB HW
  obtain ⟨c0, c1, c2, c3, c4, c5⟩ := Xf.out.box
  obtain ⟨d0, d1, d2, d3, d4, d5⟩ := Xg.out.box
  go_wp2_with fail
  clear c0 c1 c2 c3 c4 c5 d0 d1 d2 d3 d4 d5
  with_reducible refine (delay_day af nf capf zf pf jf Of.out.1 ag ng capg zg pg jg Og.out.1 Of.out.2 Og.out.2 _ Xf.out.row Xg.out.row).mono ?_
  rintro e v4 ⟨i2, m2, k2, rfl, hb, hD⟩
  obtain ⟨w4, hw⟩ : ∃ w', v4.alloc (.cells #[.bool i2, .int .i64 m2, .int .i64 (k2 : Nat)] 74) = w' := ⟨_, rfl⟩
  have hz : Below w3.heap.size w3 w4 := by rw [← hw]; exact hb.trans ((below_box _).mono hb.size)
  have Xf := Lib.hid (Xf.out.under hz)
  have Xg := Lib.hid (Xg.out.under hz)
  have Xh := Lib.hid (Xh.out.under hz)
  have Xc := Lib.hid (And.intro (Xc.out.1.below hz) (Xc.out.2.under hz))
  have Xx := Lib.hid (And.intro (Xx.out.1.below hz) (Xx.out.2.under hz))
  have X1 := Lib.hid (X1.out.below hz)
  have X2 := Lib.hid (show Cur3 w4 v4.heap.size (.bool i2) (.int .i64 m2) (.int .i64 (k2 : Nat)) by rw [← hw]; exact Cur3.new v4 _ _ _ _)
  have D2 := Lib.hid hD
  clear hD
  have HE4 := Lib.hid (HE3.out.trans (hz.mono HE3.out.size))
  have HW := Lib.hid hw
  clear hz hw hb
  go_upto_region 9 with fail
  try rw [HW.out]
  obtain ⟨B2, hB⟩ : ∃ B, v4.heap.size = B := ⟨_, rfl⟩
  rw [hB] at X2
  try rw [hB]
  clear hB HW
  obtain ⟨c0, c1, c2, c3, c4, c5⟩ := Xx.out.1
  obtain ⟨d0, d1, d2, d3, d4, d5⟩ := Xh.out.box
  go_wp2_with fail
  clear c0 c1 c2 c3 c4 c5 d0 d1 d2 d3 d4 d5
  with_reducible refine (delay_day ax nx capx zx qx jx Ox.out.1 ah nh caph zh ph jh Oh.out.1 Dx.out Oh.out.2 _ Xx.out.2 Xh.out.row).mono ?_
  rintro e v5 ⟨i3, m3, k3, rfl, hb, hD⟩
  obtain ⟨w5, hw⟩ : ∃ w', v5.alloc (.cells #[.bool i3, .int .i64 m3, .int .i64 (k3 : Nat)] 74) = w' := ⟨_, rfl⟩
  have hz : Below w4.heap.size w4 w5 := by rw [← hw]; exact hb.trans ((below_box _).mono hb.size)
  have Xf := Lib.hid (Xf.out.under hz)
  have Xg := Lib.hid (Xg.out.under hz)
  have Xh := Lib.hid (Xh.out.under hz)
  have Xc := Lib.hid (And.intro (Xc.out.1.below hz) (Xc.out.2.under hz))
  have Xx := Lib.hid (And.intro (Xx.out.1.below hz) (Xx.out.2.under hz))
  have X1 := Lib.hid (X1.out.below hz)
  have X2 := Lib.hid (X2.out.below hz)
  have X3 := Lib.hid (show Cur3 w5 v5.heap.size (.bool i3) (.int .i64 m3) (.int .i64 (k3 : Nat)) by rw [← hw]; exact Cur3.new v5 _ _ _ _)
  have D3 := Lib.hid hD
  clear hD
  have HE5 := Lib.hid (HE4.out.trans (hz.mono HE4.out.size))
  have HW := Lib.hid hw
  clear hz hw hb
  go_upto_region 10 with fail
  try rw [HW.out]
  obtain ⟨B3, hB⟩ : ∃ B, v5.heap.size = B := ⟨_, rfl⟩
  rw [hB] at X3
  try rw [hB]
  clear hB HW
  obtain ⟨c0, c1, c2, c3, c4, c5⟩ := X1.out
  obtain ⟨g0, g1, g2, g3, g4, g5⟩ := X2.out
  obtain ⟨h0, h1, h2, h3, h4, h5⟩ := X3.out
  cases i2 with
  | true =>
    go_wp2_with fail
    refine (awake10 _).mono ?_
    rintro e y9 ⟨rfl, hb⟩
    have HBZ := Lib.hid (HE5.out.trans (hb.mono HE5.out.size))
    clear hb
    go_wp2_with fail
    go_ret
    exact ⟨rfl, HBZ.out⟩
  | false =>
    cases i3 with
    | true =>
      go_wp2_with fail
      refine (awake10 _).mono ?_
      rintro e y9 ⟨rfl, hb⟩
      have HBZ := Lib.hid (HE5.out.trans (hb.mono HE5.out.size))
      clear hb
      go_wp2_with fail
      go_ret
      exact ⟨rfl, HBZ.out⟩
    | false =>
      obtain ⟨n1, hn1, d1, _, b1⟩ := D1.out
      obtain ⟨n2, hn2, d2, _, b2⟩ := D2.out
      obtain ⟨n3, hn3, d3, _, b3⟩ := D3.out
      have he : eC zc qc jc = oconv (eC zg pg jg) (eC zh ph jh) := funext Oc.out.2
      have he2 : eC zx qx jx = oDec (eC zf pf jf) (eC zg pg jg) := funext Ox.out.2
      have hv : Up (oconv (eC zg pg jg) (eC zh ph jh)) := by rw [← he]; exact up_eC Oc.out.1
      rw [he] at d1
      rw [he2] at d3
      obtain ⟨e1, e2⟩ := once_delay (up_eC Of.out.1) (up_eC Og.out.1) (up_eC Oh.out.1) (nn_eC Oh.out.1) hv (eC_zero0 Og.out.1 HZ.out) d2 d3 d1 rfl rfl
      subst e1
      obtain ⟨s1, hs1⟩ : ∃ s1, m2 + m3 = s1 := ⟨_, rfl⟩
      have hw1 : IntKind.i64.wrap s1 = s1 := IntWalk.i64_in _ ⟨by omega, by omega⟩
      have t1i : m1 ≤ s1 := by omega
      have t1 : decide (m1 ≤ s1) = true := decide_eq_true t1i
      have hm1 : 0 ≤ m1 := by omega
      have hm2 : 0 ≤ m2 := by omega
      have hm3 : 0 ≤ m3 := by omega
      clear d1 d2 d3 he he2 hv e2 hn1 hn2 hn3 D1 D2 D3
      go_wp2_with fail
      refine (awake10 _).mono ?_
      rintro e y9 ⟨rfl, hb⟩
      have HBZ := Lib.hid (HE5.out.trans (hb.mono HE5.out.size))
      clear hb
      go_wp2_with fail
      go_ret
      exact ⟨rfl, HBZ.out⟩

end Go.Proofs.Ytjjaaknjdmijbaa
