/- The walk of ServiceChains. By the verifier's side. -/
import Derived.Test.YtjipmkgnndldpaaESvP
import Derived.Test.YtjipmkgnndldpaaEConER
import Derived.Test.YtjipmkgnndldpaaEDevB
namespace Go.Proofs.Ytjipmkgnndldpaa
open Go.RowKit
set_option linter.unusedSimpArgs false
set_option linter.unusedVariables false


set_option maxRecDepth 100000 in
set_option maxHeartbeats 6400000 in
theorem serviceChains_walk (W : World) (a : Option Addr) (n cap : Nat) (hrow : RowAt W a n cap) :
    Calls Try.prog 5 #[.slice a n cap] W fun e w' => e = .returned (.bool true) ∧ Below W.heap.size W w' := by
  have HR := Lib.hid hrow
  clear hrow
  go_enter Try.func5, Try.ntmps5
  go_wp2_with fail
  refine (new_any a n cap _ HR.out).mono ?_
  rintro e u1 ⟨rfl, hb1, hz1, ra, rn, rc, hs1⟩
  have HB1 := Lib.hid hb1
  have HS1 := Lib.hid hs1
  have Z1 := Lib.hid (show W.heap.size < u1.heap.size by omega)
  have HD := Lib.hid (Held.start hs1)
  clear hb1 hz1 hs1
  go_wp2_with fail
  refine (frac_any 9 3 (by omega) (by omega) (by omega) (by omega) _ ra rn rc _ (HD.out.at HS1.out)).mono ?_
  rintro e u2 ⟨x1, y1, hp, rfl, hs, ha⟩
  obtain ⟨an, ad, rfl, rfl, f0, f1, f2, f3⟩ := frac_nat hp (by omega) (by omega)
  have Oan := Lib.hid (show okB an ad = true ∧ an ≤ 27 ∧ 1 ≤ ad ∧ ad ≤ 3 from ⟨f0, by omega, f2, by omega⟩)
  have HD := Lib.hid (HD.out.call hs ha)
  clear hs ha hp f0 f1 f2 f3
  go_wp2_with fail
  refine (frac_any 6 3 (by omega) (by omega) (by omega) (by omega) _ ra rn rc _ (HD.out.at HS1.out)).mono ?_
  rintro e u3 ⟨x1, y1, hp, rfl, hs, ha⟩
  obtain ⟨kn, kd, rfl, rfl, f0, f1, f2, f3⟩ := frac_nat hp (by omega) (by omega)
  have Okn := Lib.hid (show okB kn kd = true ∧ kn ≤ 18 ∧ 1 ≤ kd ∧ kd ≤ 3 from ⟨f0, by omega, f2, by omega⟩)
  have HD := Lib.hid (HD.out.call hs ha)
  clear hs ha hp f0 f1 f2 f3
  obtain ⟨u4, hw⟩ : ∃ w', u3.alloc (.cells #[.int .i64 an, .int .i64 ad, .int .i64 kn, .int .i64 kd] 25) = w' := ⟨_, rfl⟩
  have hz : Below u3.heap.size u3 u4 := by rw [← hw]; exact below_box _
  have hsA : W.heap.size < u3.heap.size := HD.out.lt
  have NEA := Lib.hid (show u3.heap.size ≠ W.heap.size by omega)
  have XA := Lib.hid (show Bk4 u4 u3.heap.size an ad kn kd by rw [← hw]; exact Bk4.new _ _ _ _ _ _)
  have HD := Lib.hid (HD.out.below hz)
  have HWA := Lib.hid hw
  have SZA := Lib.hid (show u4.heap.size = u3.heap.size + 1 by rw [← hw]; simp)
  clear hw hz hsA
  go_upto_region 3 with fail
  try rw [HWA.out]
  obtain ⟨BA, hB⟩ : ∃ B, u3.heap.size = B := ⟨_, rfl⟩
  try rw [hB] at XA NEA
  try rw [hB]
  clear HWA SZA hB
  go_wp2_with fail
  refine (frac_any 9 4 (by omega) (by omega) (by omega) (by omega) _ ra rn rc _ (HD.out.at HS1.out)).mono ?_
  rintro e u5 ⟨x1, y1, hp, rfl, hs, ha⟩
  obtain ⟨bn, bd, rfl, rfl, f0, f1, f2, f3⟩ := frac_nat hp (by omega) (by omega)
  have Obn := Lib.hid (show okB bn bd = true ∧ bn ≤ 36 ∧ 1 ≤ bd ∧ bd ≤ 4 from ⟨f0, by omega, f2, by omega⟩)
  have HD := Lib.hid (HD.out.call hs ha)
  have XA := Lib.hid (XA.out.apart ha NEA.out)
  clear hs ha hp f0 f1 f2 f3
  go_wp2_with fail
  refine (frac_any 6 2 (by omega) (by omega) (by omega) (by omega) _ ra rn rc _ (HD.out.at HS1.out)).mono ?_
  rintro e u6 ⟨x1, y1, hp, rfl, hs, ha⟩
  obtain ⟨ln, ld, rfl, rfl, f0, f1, f2, f3⟩ := frac_nat hp (by omega) (by omega)
  have Oln := Lib.hid (show okB ln ld = true ∧ ln ≤ 12 ∧ 1 ≤ ld ∧ ld ≤ 2 from ⟨f0, by omega, f2, by omega⟩)
  have HD := Lib.hid (HD.out.call hs ha)
  have XA := Lib.hid (XA.out.apart ha NEA.out)
  clear hs ha hp f0 f1 f2 f3
  obtain ⟨u7, hw⟩ : ∃ w', u6.alloc (.cells #[.int .i64 bn, .int .i64 bd, .int .i64 ln, .int .i64 ld] 25) = w' := ⟨_, rfl⟩
  have hz : Below u6.heap.size u6 u7 := by rw [← hw]; exact below_box _
  have hsB : W.heap.size < u6.heap.size := HD.out.lt
  have NEB := Lib.hid (show u6.heap.size ≠ W.heap.size by omega)
  have XA := Lib.hid (XA.out.below hz)
  have XB := Lib.hid (show Bk4 u7 u6.heap.size bn bd ln ld by rw [← hw]; exact Bk4.new _ _ _ _ _ _)
  have HD := Lib.hid (HD.out.below hz)
  have HWB := Lib.hid hw
  have SZB := Lib.hid (show u7.heap.size = u6.heap.size + 1 by rw [← hw]; simp)
  clear hw hz hsB
  go_upto_region 4 with fail
  try rw [HWB.out]
  obtain ⟨BB, hB⟩ : ∃ B, u6.heap.size = B := ⟨_, rfl⟩
  try rw [hB] at XB NEB
  try rw [hB]
  clear HWB SZB hB
  obtain ⟨mn, md, S, T, hca, hom, hos, m0, m2, m1, t1, t2, s2, cc1, cc2, cc3⟩ := chain_two Oan.out.1 Okn.out.1 Obn.out.1 Oln.out.1 (by have := Oan.out; omega) (by have := Oan.out; omega) (by have := Obn.out; omega) (by have := Obn.out; omega) (by have := Okn.out; omega) (by have := Okn.out; omega) (by have := Oln.out; omega) (by have := Oln.out; omega)
  have HCA := Lib.hid hca
  have OM := Lib.hid (show okB mn md = true ∧ mn ≤ 1000 ∧ 1 ≤ md ∧ md ≤ 20 from ⟨hom, m0, m1, m2⟩)
  have OS := Lib.hid (show okB S T = true ∧ S ≤ 100 ∧ 1 ≤ T from ⟨hos, by
    have h1 := Okn.out; have h2 := Oln.out
    have e1 : kn * ld ≤ 18 * 2 := Nat.mul_le_mul (by omega) (by omega)
    have e2 : ln * kd ≤ 12 * 3 := Nat.mul_le_mul (by omega) (by omega)
    omega, t1⟩)
  have HCC := Lib.hid (And.intro cc1 (And.intro cc2 cc3))
  obtain ⟨u8, hw⟩ : ∃ w', u7.alloc (.cells #[.int .i64 an, .int .i64 ad, .int .i64 kn, .int .i64 kd, .int .i64 bn, .int .i64 bd, .int .i64 ln, .int .i64 ld] 25) = w' := ⟨_, rfl⟩
  have hz : Below u7.heap.size u7 u8 := by rw [← hw]; exact below_box _
  have XT := Lib.hid (show RowB u8 u7.heap.size 0 [⟨an, ad, kn, kd⟩, ⟨bn, bd, ln, ld⟩] by rw [← hw]; exact svrow_two u7 ⟨an, ad, kn, kd⟩ ⟨bn, bd, ln, ld⟩ _)
  have HW := Lib.hid hw
  obtain ⟨c0, c1, c2, c3⟩ := XA.out
  obtain ⟨d0, d1, d2, d3⟩ := XB.out
  clear hw hca hom hos m0 m2 m1 t1 t2 s2 cc1 cc2 cc3
  go_wp2_with fail
  try rw [HW.out]
  clear c0 c1 c2 c3 d0 d1 d2 d3
  have HD := Lib.hid (HD.out.below hz)
  have XA := Lib.hid (XA.out.below hz)
  have XB := Lib.hid (XB.out.below hz)
  clear hz HW
  refine (chain_any _ 2 2 _ rfl (by omega) (by omega) _ XT.out).mono ?_
  rw [HCA.out]
  rintro e u9 ⟨rfl, hb⟩
  have HD := Lib.hid (HD.out.below hb)
  have XA := Lib.hid (XA.out.below hb)
  have XB := Lib.hid (XB.out.below hb)
  clear hb XT HCA
  obtain ⟨u10, hw⟩ : ∃ w', u9.alloc (.cells #[.int .i64 mn, .int .i64 md, .int .i64 S, .int .i64 T] 25) = w' := ⟨_, rfl⟩
  have hz : Below u9.heap.size u9 u10 := by rw [← hw]; exact below_box _
  have hsC : W.heap.size < u9.heap.size := HD.out.lt
  have NEC := Lib.hid (show u9.heap.size ≠ W.heap.size by omega)
  have XA := Lib.hid (XA.out.below hz)
  have XB := Lib.hid (XB.out.below hz)
  have XC := Lib.hid (show Bk4 u10 u9.heap.size mn md S T by rw [← hw]; exact Bk4.new _ _ _ _ _ _)
  have HD := Lib.hid (HD.out.below hz)
  have HWC := Lib.hid hw
  have SZC := Lib.hid (show u10.heap.size = u9.heap.size + 1 by rw [← hw]; simp)
  clear hw hz hsC
  go_upto_region 5 with fail
  try rw [HWC.out]
  obtain ⟨BC, hB⟩ : ∃ B, u9.heap.size = B := ⟨_, rfl⟩
  try rw [hB] at XC NEC
  try rw [hB]
  clear HWC SZC hB
  obtain ⟨c0, c1, c2, c3⟩ := XA.out
  go_wp2_with fail
  clear c0 c1 c2 c3
  have hsz : W.heap.size < u10.heap.size := HD.out.lt
  refine (pace_ok (rn := an) (rd := ad) (ln := kn) (ld := kd) Oan.out.1 Okn.out.1 (by have := Oan.out; omega) (by have := Oan.out; omega) (by have h1 := Oan.out; have h2 := Okn.out; have := up_small (n := kn) (d := kd) (by omega); omega) _).mono ?_
  rintro e u11 ⟨af, nf, capf, zf, pf, jf, rfl, hb, hr, hf, hx⟩
  have Ff := Lib.hid hf
  have HD := Lib.hid (HD.out.below hb)
  have XA := Lib.hid (XA.out.below hb)
  have XB := Lib.hid (XB.out.below hb)
  have XC := Lib.hid (XC.out.below hb)
  clear hb hf
  obtain ⟨u12, hw⟩ : ∃ w', u11.alloc (.cells #[.slice af nf capf, .int .i64 pf, .int .i64 jf] 38) = w' := ⟨_, rfl⟩
  have hz : Below u11.heap.size u11 u12 := by rw [← hw]; exact below_box _
  have hsf : W.heap.size < u11.heap.size := HD.out.lt
  have NEf := Lib.hid (show u11.heap.size ≠ W.heap.size ∧ ∀ y, af = some y → ¬ y.block = W.heap.size from ⟨by omega, fun y hy => by have h1 := hx y hy; have h2 := hsz; omega⟩)
  have XA := Lib.hid (XA.out.below hz)
  have XB := Lib.hid (XB.out.below hz)
  have XC := Lib.hid (XC.out.below hz)
  have Xf := Lib.hid (show Bx u12 u11.heap.size af nf capf pf jf zf by rw [← hw]; exact Bx.new hr)
  have HD := Lib.hid (HD.out.below hz)
  have HW := Lib.hid hw
  clear hw hz hsf hr hx hsz
  go_upto_region 6 with fail
  try rw [HW.out]
  obtain ⟨Bf, hB⟩ : ∃ B, u11.heap.size = B := ⟨_, rfl⟩
  rw [hB] at Xf NEf
  try rw [hB]
  clear HW hB
  obtain ⟨c0, c1, c2, c3⟩ := XB.out
  go_wp2_with fail
  clear c0 c1 c2 c3
  have hsz : W.heap.size < u12.heap.size := HD.out.lt
  refine (pace_ok (rn := bn) (rd := bd) (ln := ln) (ld := ld) Obn.out.1 Oln.out.1 (by have := Obn.out; omega) (by have := Obn.out; omega) (by have h1 := Obn.out; have h2 := Oln.out; have := up_small (n := ln) (d := ld) (by omega); omega) _).mono ?_
  rintro e u13 ⟨ag, ng, capg, zg, pg, jg, rfl, hb, hr, hf, hx⟩
  have Fg := Lib.hid hf
  have HD := Lib.hid (HD.out.below hb)
  have XA := Lib.hid (XA.out.below hb)
  have XB := Lib.hid (XB.out.below hb)
  have XC := Lib.hid (XC.out.below hb)
  have Xf := Lib.hid (Xf.out.under hb)
  clear hb hf
  obtain ⟨u14, hw⟩ : ∃ w', u13.alloc (.cells #[.slice ag ng capg, .int .i64 pg, .int .i64 jg] 38) = w' := ⟨_, rfl⟩
  have hz : Below u13.heap.size u13 u14 := by rw [← hw]; exact below_box _
  have hsg : W.heap.size < u13.heap.size := HD.out.lt
  have NEg := Lib.hid (show u13.heap.size ≠ W.heap.size ∧ ∀ y, ag = some y → ¬ y.block = W.heap.size from ⟨by omega, fun y hy => by have h1 := hx y hy; have h2 := hsz; omega⟩)
  have XA := Lib.hid (XA.out.below hz)
  have XB := Lib.hid (XB.out.below hz)
  have XC := Lib.hid (XC.out.below hz)
  have Xf := Lib.hid (Xf.out.under hz)
  have Xg := Lib.hid (show Bx u14 u13.heap.size ag ng capg pg jg zg by rw [← hw]; exact Bx.new hr)
  have HD := Lib.hid (HD.out.below hz)
  have HW := Lib.hid hw
  clear hw hz hsg hr hx hsz
  go_upto_region 7 with fail
  try rw [HW.out]
  obtain ⟨Bg, hB⟩ : ∃ B, u13.heap.size = B := ⟨_, rfl⟩
  rw [hB] at Xg NEg
  try rw [hB]
  clear HW hB
  obtain ⟨c0, c1, c2, c3⟩ := XC.out
  go_wp2_with fail
  clear c0 c1 c2 c3
  have hsz : W.heap.size < u14.heap.size := HD.out.lt
  refine (pace_ok (rn := mn) (rd := md) (ln := S) (ld := T) OM.out.1 OS.out.1 (by have := OM.out; omega) (by have := OM.out; omega) (by have h1 := OM.out; have h2 := OS.out; have := up_small (n := S) (d := T) (by omega); omega) _).mono ?_
  rintro e u15 ⟨ah, nh, caph, zh, ph, jh, rfl, hb, hr, hf, hx⟩
  have Fh := Lib.hid hf
  have HD := Lib.hid (HD.out.below hb)
  have XA := Lib.hid (XA.out.below hb)
  have XB := Lib.hid (XB.out.below hb)
  have XC := Lib.hid (XC.out.below hb)
  have Xf := Lib.hid (Xf.out.under hb)
  have Xg := Lib.hid (Xg.out.under hb)
  clear hb hf
  obtain ⟨u16, hw⟩ : ∃ w', u15.alloc (.cells #[.slice ah nh caph, .int .i64 ph, .int .i64 jh] 38) = w' := ⟨_, rfl⟩
  have hz : Below u15.heap.size u15 u16 := by rw [← hw]; exact below_box _
  have hsh : W.heap.size < u15.heap.size := HD.out.lt
  have NEh := Lib.hid (show u15.heap.size ≠ W.heap.size ∧ ∀ y, ah = some y → ¬ y.block = W.heap.size from ⟨by omega, fun y hy => by have h1 := hx y hy; have h2 := hsz; omega⟩)
  have XA := Lib.hid (XA.out.below hz)
  have XB := Lib.hid (XB.out.below hz)
  have XC := Lib.hid (XC.out.below hz)
  have Xf := Lib.hid (Xf.out.under hz)
  have Xg := Lib.hid (Xg.out.under hz)
  have Xh := Lib.hid (show Bx u16 u15.heap.size ah nh caph ph jh zh by rw [← hw]; exact Bx.new hr)
  have HD := Lib.hid (HD.out.below hz)
  have HW := Lib.hid hw
  clear hw hz hsh hr hx hsz
  go_upto_region 8 with fail
  try rw [HW.out]
  obtain ⟨Bh, hB⟩ : ∃ B, u15.heap.size = B := ⟨_, rfl⟩
  rw [hB] at Xh NEh
  try rw [hB]
  clear HW hB
  obtain ⟨L, hL, hl⟩ := lcm_form Ff.out Fg.out (pace_form Ff.out (by have := Oan.out; omega) (by have := Okn.out; omega)) (pace_form Fg.out (by have := Obn.out; omega) (by have := Oln.out; omega)) (Nat.le_trans (Nat.mul_le_mul (show ad ≤ 3 by have := Oan.out; omega) (show bd ≤ 4 by have := Obn.out; omega)) (by omega))
  have HLL := Lib.hid (And.intro hL hl)
  have HOL := Lib.hid (fun t => chain_conv (mn := mn) (md := md) (S := S) (T := T) Ff.out Fg.out (by have := Oan.out; omega) (by have := Okn.out; omega) (by have := Obn.out; omega) (by have := Oln.out; omega) OM.out.2.2.1 OS.out.2.2 HCC.out.1 HCC.out.2.1 HCC.out.2.2 t)
  clear hL hl
  go_upto_region 10 with fail
  obtain ⟨c0, c1, c2, c3, c4, c5⟩ := Xf.out.box
  obtain ⟨d0, d1, d2, d3, d4, d5⟩ := Xg.out.box
  go_wp2_with fail
  clear c0 c1 c2 c3 c4 c5 d0 d1 d2 d3 d4 d5
  have hsz : W.heap.size < u16.heap.size := HD.out.lt
  refine (cof_ok af nf capf zf pf jf Ff.out.good ag ng capg zg pg jg Fg.out.good L HLL.out.1 HLL.out.2 _ Xf.out.row Xg.out.row).mono ?_
  rintro e u17 ⟨hb, ⟨ax, nx, capx, zx, px, jx, rfl, hr, hf, hx⟩ | ⟨rfl, hno⟩⟩
  · have Fx := Lib.hid hf
    have HD := Lib.hid (HD.out.below hb)
    have XA := Lib.hid (XA.out.below hb)
    have XB := Lib.hid (XB.out.below hb)
    have XC := Lib.hid (XC.out.below hb)
    have Xf := Lib.hid (Xf.out.under hb)
    have Xg := Lib.hid (Xg.out.under hb)
    have Xh := Lib.hid (Xh.out.under hb)
    clear hb hf
    obtain ⟨u19, hw⟩ : ∃ w', u17.alloc (.cells #[.slice ax nx capx, .int .i64 px, .int .i64 jx] 38) = w' := ⟨_, rfl⟩
    have hz : Below u17.heap.size u17 u19 := by rw [← hw]; exact below_box _
    have hsx : W.heap.size < u17.heap.size := HD.out.lt
    have NEx := Lib.hid (show u17.heap.size ≠ W.heap.size ∧ ∀ y, ax = some y → ¬ y.block = W.heap.size from ⟨by omega, fun y hy => by have h1 := hx y hy; have h2 := hsz; omega⟩)
    have XA := Lib.hid (XA.out.below hz)
    have XB := Lib.hid (XB.out.below hz)
    have XC := Lib.hid (XC.out.below hz)
    have Xf := Lib.hid (Xf.out.under hz)
    have Xg := Lib.hid (Xg.out.under hz)
    have Xh := Lib.hid (Xh.out.under hz)
    have Xx := Lib.hid (show Bx u19 u17.heap.size ax nx capx px jx zx by rw [← hw]; exact Bx.new hr)
    have HD := Lib.hid (HD.out.below hz)
    have HW := Lib.hid hw
    clear hw hz hsx hr hx hsz
    go_upto_region 11 with fail
    try rw [HW.out]
    obtain ⟨Bx, hB⟩ : ∃ B, u17.heap.size = B := ⟨_, rfl⟩
    rw [hB] at Xx NEx
    try rw [hB]
    clear HW hB
    obtain ⟨c0, c1, c2, c3, c4, c5⟩ := Xh.out.box
    obtain ⟨d0, d1, d2, d3, d4, d5⟩ := Xx.out.box
    go_wp2_with fail
    clear c0 c1 c2 c3 c4 c5 d0 d1 d2 d3 d4 d5
    refine (ratMost_yes _ _ _ _ _ _ Fh.out.good _ _ _ _ _ _ Fx.out.good (form_ole Fh.out Fx.out HOL.out) _ Xh.out.row Xx.out.row).mono ?_
    rintro e u20 ⟨rfl, hb⟩
    have HD := Lib.hid (HD.out.below hb)
    have XA := Lib.hid (XA.out.below hb)
    have XB := Lib.hid (XB.out.below hb)
    have XC := Lib.hid (XC.out.below hb)
    have Xf := Lib.hid (Xf.out.under hb)
    have Xg := Lib.hid (Xg.out.under hb)
    have Xh := Lib.hid (Xh.out.under hb)
    have Xx := Lib.hid (Xx.out.under hb)
    clear hb
    go_wp2_with fail
    refine (awake12 _).mono ?_
    rintro e u21 ⟨rfl, hb⟩
    have HD := Lib.hid (HD.out.below hb)
    clear hb
    go_wp2_with fail
    go_ret
    exact ⟨rfl, HB1.out.trans (HD.out.ap.below (Nat.le_refl _) HB1.out.size)⟩
  · clear hno
    have HD := Lib.hid (HD.out.below hb)
    have XA := Lib.hid (XA.out.below hb)
    have XB := Lib.hid (XB.out.below hb)
    have XC := Lib.hid (XC.out.below hb)
    have Xf := Lib.hid (Xf.out.under hb)
    have Xg := Lib.hid (Xg.out.under hb)
    have Xh := Lib.hid (Xh.out.under hb)
    clear hb
    obtain ⟨u19, hw⟩ : ∃ w', u17.alloc (.cells #[.slice none 0 0, .int .i64 0, .int .i64 0] 38) = w' := ⟨_, rfl⟩
    have hz : Below u17.heap.size u17 u19 := by rw [← hw]; exact below_box _
    have HD := Lib.hid (HD.out.below hz)
    have HW := Lib.hid hw
    clear hw hz
    go_upto_region 11 with fail
    try rw [HW.out]
    clear HW
    go_wp2_with fail
    refine (awake12 _).mono ?_
    rintro e u20 ⟨rfl, hb⟩
    have HD := Lib.hid (HD.out.below hb)
    clear hb
    go_wp2_with fail
    go_ret
    exact ⟨rfl, HB1.out.trans (HD.out.ap.below (Nat.le_refl _) HB1.out.size)⟩

end Go.Proofs.Ytjipmkgnndldpaa
