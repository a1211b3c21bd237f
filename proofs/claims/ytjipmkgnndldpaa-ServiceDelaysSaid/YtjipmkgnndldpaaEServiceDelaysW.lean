/- The walk of ServiceDelays. By the verifier's side. -/
import Derived.Test.YtjipmkgnndldpaaESvESvN
import Derived.Test.YtjipmkgnndldpaaEConER
namespace Go.Proofs.Ytjipmkgnndldpaa
open Go.RowKit
set_option linter.unusedSimpArgs false
set_option linter.unusedVariables false

theorem later_pace {rn rd ln ld wn wd d : Nat} {zs : List Int} {p : Nat} {inc : Int} (hf : EForm zs p inc (paceE rn rd ln ld)) (hrd : 1 ≤ rd) (hld : 1 ≤ ld) (hwd : 1 ≤ wd) (h : wn * ld = (ln + d * ld) * wd) : eLater d zs p inc = paceE rn rd wn wd := funext fun t => by
  unfold eLater
  show _ = some (((paceN rn rd wn wd t : Nat)) : Int)
  rw [pace_delay hrd hld hwd h t]
  split
  · rfl
  · rw [hf.val]; rfl

set_option maxRecDepth 100000 in
set_option maxHeartbeats 6400000 in
theorem serviceDelays_walk (W : World) (a : Option Addr) (n cap : Nat) (hrow : RowAt W a n cap) :
    Calls Try.prog 8 #[.slice a n cap] W fun e w' => e = .returned (.bool true) ∧ Below W.heap.size W w' := by
  have HR := Lib.hid hrow
  clear hrow
  go_enter Try.func8, Try.ntmps8
  go_wp2_with fail
  refine (new_any a n cap _ HR.out).mono ?_
  rintro e u1 ⟨rfl, hb1, hz1, ra, rn, rc, hs1⟩
  have HB1 := Lib.hid hb1
  have HS1 := Lib.hid hs1
  have Z1 := Lib.hid (show W.heap.size < u1.heap.size by omega)
  have HD := Lib.hid (Held.start hs1)
  clear hb1 hz1 hs1
  go_wp2_with fail
  refine (frac_any 9 5 (by omega) (by omega) (by omega) (by omega) _ ra rn rc _ (HD.out.at HS1.out)).mono ?_
  rintro e u2 ⟨x1, y1, hp, rfl, hs, ha⟩
  obtain ⟨pn, pd, rfl, rfl, f0, f1, f2, f3⟩ := frac_nat hp (by omega) (by omega)
  have Opn := Lib.hid (show okB pn pd = true ∧ pn ≤ 45 ∧ 1 ≤ pd ∧ pd ≤ 5 from ⟨f0, by omega, f2, by omega⟩)
  have HD := Lib.hid (HD.out.call hs ha)
  clear hs ha hp f0 f1 f2 f3
  go_wp2_with fail
  refine (frac_any 3 4 (by omega) (by omega) (by omega) (by omega) _ ra rn rc _ (HD.out.at HS1.out)).mono ?_
  rintro e u3 ⟨x1, y1, hp, rfl, hs, ha⟩
  obtain ⟨ln, ld, rfl, rfl, f0, f1, f2, f3⟩ := frac_nat hp (by omega) (by omega)
  have Oln := Lib.hid (show okB ln ld = true ∧ ln ≤ 12 ∧ 1 ≤ ld ∧ ld ≤ 4 from ⟨f0, by omega, f2, by omega⟩)
  have HD := Lib.hid (HD.out.call hs ha)
  clear hs ha hp f0 f1 f2 f3
  go_wp2_with fail
  refine (n_any 30 (by omega) (by omega) _ ra rn rc _ (HD.out.at HS1.out)).mono ?_
  rintro e u4 ⟨r, ⟨r0, r1⟩, rfl, hs, he⟩
  obtain ⟨d, rfl⟩ := Int.eq_ofNat_of_zero_le r0
  have Nd := Lib.hid (show d < 30 by omega)
  have HD := Lib.hid (HD.out.call hs he.apart)
  clear hs he r0 r1
  obtain ⟨u5, hw⟩ : ∃ w', u4.alloc (.cells #[.int .i64 pn, .int .i64 pd] 23) = w' := ⟨_, rfl⟩
  have hz : Below u4.heap.size u4 u5 := by rw [← hw]; exact below_box _
  have hsR : W.heap.size < u4.heap.size := HD.out.lt
  have NER := Lib.hid (show u4.heap.size ≠ W.heap.size by omega)
  have XR := Lib.hid (show Box u5 u4.heap.size pn pd by rw [← hw]; exact Box.new _ _ _ _)
  have HD := Lib.hid (HD.out.below hz)
  have HWR := Lib.hid hw
  have SZR := Lib.hid (show u5.heap.size = u4.heap.size + 1 by rw [← hw]; simp)
  clear hw hz hsR
  obtain ⟨u6, hw⟩ : ∃ w', u5.alloc (.cells #[.int .i64 ln, .int .i64 ld] 23) = w' := ⟨_, rfl⟩
  have hz : Below u5.heap.size u5 u6 := by rw [← hw]; exact below_box _
  have hsL : W.heap.size < u5.heap.size := HD.out.lt
  have NEL := Lib.hid (show u5.heap.size ≠ W.heap.size by omega)
  have XR := Lib.hid (XR.out.below hz)
  have XL := Lib.hid (show Box u6 u5.heap.size ln ld by rw [← hw]; exact Box.new _ _ _ _)
  have HD := Lib.hid (HD.out.below hz)
  have HWL := Lib.hid hw
  have SZL := Lib.hid (show u6.heap.size = u5.heap.size + 1 by rw [← hw]; simp)
  clear hw hz hsL
  go_upto_region 3 with fail
  try rw [HWR.out]
  try rw [HWL.out]
  try rw [show u4.heap.size + 1 = u5.heap.size from by have := SZR.out; omega]
  obtain ⟨BR, hB⟩ : ∃ B, u4.heap.size = B := ⟨_, rfl⟩
  try rw [hB] at XR NER
  try rw [hB]
  clear HWR SZR hB
  obtain ⟨BL, hB⟩ : ∃ B, u5.heap.size = B := ⟨_, rfl⟩
  try rw [hB] at XL NEL
  try rw [hB]
  clear HWL SZL hB
  obtain ⟨S, T, he1, ho1, hx1, ht1, ht2, hs2⟩ := svadd_nat (a := ln) (b := ld) (c := d) (d := 1) Oln.out.1 (okB_one (by have := Nd.out; omega)) (by have := Oln.out; omega) (by omega) (by have := Oln.out; omega) (by have := Nd.out; omega)
  have HE := Lib.hid (show addF (ln : Int) (ld : Int) (d : Int) 1 = ((S : Int), (T : Int), 0) from he1)
  have OS := Lib.hid (show okB S T = true ∧ S ≤ 200 ∧ 1 ≤ T ∧ T ≤ 4 from ⟨ho1, by
    have h1 := Oln.out; have h2 := Nd.out
    have : d * ld ≤ 30 * 4 := Nat.mul_le_mul (by omega) (by omega)
    omega, ht1, by have := Oln.out; omega⟩)
  have HX := Lib.hid (show S * ld = (ln + d * ld) * T by rw [Nat.mul_one, Nat.mul_one] at hx1; exact hx1)
  clear he1 ho1 hx1 ht1 ht2 hs2
  obtain ⟨c0, c1, c2, c3⟩ := XL.out
  go_wp2_with fail
  clear c0 c1 c2 c3
  refine (radd_all ln ld d 1 _).mono ?_
  rintro e u7 ⟨rfl, hb⟩
  rw [HE.out]
  have HD := Lib.hid (HD.out.below hb)
  have XR := Lib.hid (XR.out.below hb)
  have XL := Lib.hid (XL.out.below hb)
  clear hb
  obtain ⟨u8, hw⟩ : ∃ w', u7.alloc (.cells #[.int .i64 S, .int .i64 T] 23) = w' := ⟨_, rfl⟩
  have hz : Below u7.heap.size u7 u8 := by rw [← hw]; exact below_box _
  have hsQ : W.heap.size < u7.heap.size := HD.out.lt
  have NEQ := Lib.hid (show u7.heap.size ≠ W.heap.size by omega)
  have XR := Lib.hid (XR.out.below hz)
  have XL := Lib.hid (XL.out.below hz)
  have XQ := Lib.hid (show Box u8 u7.heap.size S T by rw [← hw]; exact Box.new _ _ _ _)
  have HD := Lib.hid (HD.out.below hz)
  have HWQ := Lib.hid hw
  have SZQ := Lib.hid (show u8.heap.size = u7.heap.size + 1 by rw [← hw]; simp)
  clear hw hz hsQ
  go_upto_region 4 with fail
  try rw [HWQ.out]
  obtain ⟨BQ, hB⟩ : ∃ B, u7.heap.size = B := ⟨_, rfl⟩
  try rw [hB] at XQ NEQ
  try rw [hB]
  clear HWQ SZQ hB
  obtain ⟨c0, c1, c2, c3⟩ := XR.out
  obtain ⟨d0, d1, d2, d3⟩ := XL.out
  go_wp2_with fail
  clear c0 c1 c2 c3 d0 d1 d2 d3
  have hsz : W.heap.size < u8.heap.size := HD.out.lt
  refine (pace_ok (rn := pn) (rd := pd) (ln := ln) (ld := ld) Opn.out.1 Oln.out.1 (by have := Opn.out; omega) (by have := Opn.out; omega) (by have h1 := Opn.out; have h2 := Oln.out; have := up_small (n := ln) (d := ld) (by omega); omega) _).mono ?_
  rintro e u9 ⟨af, nf, capf, zf, pf, jf, rfl, hb, hr, hf, hx⟩
  have Ff := Lib.hid hf
  have HD := Lib.hid (HD.out.below hb)
  have XR := Lib.hid (XR.out.below hb)
  have XL := Lib.hid (XL.out.below hb)
  have XQ := Lib.hid (XQ.out.below hb)
  clear hb hf
  obtain ⟨u10, hw⟩ : ∃ w', u9.alloc (.cells #[.slice af nf capf, .int .i64 pf, .int .i64 jf] 38) = w' := ⟨_, rfl⟩
  have hz : Below u9.heap.size u9 u10 := by rw [← hw]; exact below_box _
  have hsf : W.heap.size < u9.heap.size := HD.out.lt
  have NEf := Lib.hid (show u9.heap.size ≠ W.heap.size ∧ ∀ y, af = some y → ¬ y.block = W.heap.size from ⟨by omega, fun y hy => by have h1 := hx y hy; have h2 := hsz; omega⟩)
  have XR := Lib.hid (XR.out.below hz)
  have XL := Lib.hid (XL.out.below hz)
  have XQ := Lib.hid (XQ.out.below hz)
  have Xf := Lib.hid (show Bx u10 u9.heap.size af nf capf pf jf zf by rw [← hw]; exact Bx.new hr)
  have HD := Lib.hid (HD.out.below hz)
  have HW := Lib.hid hw
  clear hw hz hsf hr hx hsz
  go_upto_region 5 with fail
  try rw [HW.out]
  obtain ⟨Bf, hB⟩ : ∃ B, u9.heap.size = B := ⟨_, rfl⟩
  rw [hB] at Xf NEf
  try rw [hB]
  clear HW hB
  obtain ⟨c0, c1, c2, c3⟩ := XR.out
  obtain ⟨d0, d1, d2, d3⟩ := XQ.out
  go_wp2_with fail
  clear c0 c1 c2 c3 d0 d1 d2 d3
  have hsz : W.heap.size < u10.heap.size := HD.out.lt
  refine (pace_ok (rn := pn) (rd := pd) (ln := S) (ld := T) Opn.out.1 OS.out.1 (by have := Opn.out; omega) (by have := Opn.out; omega) (by have h1 := Opn.out; have h2 := OS.out; have := up_small (n := S) (d := T) (by omega); omega) _).mono ?_
  rintro e u11 ⟨ag, ng, capg, zg, pg, jg, rfl, hb, hr, hf, hx⟩
  have Fg := Lib.hid hf
  have HD := Lib.hid (HD.out.below hb)
  have XR := Lib.hid (XR.out.below hb)
  have XL := Lib.hid (XL.out.below hb)
  have XQ := Lib.hid (XQ.out.below hb)
  have Xf := Lib.hid (Xf.out.under hb)
  clear hb hf
  obtain ⟨u12, hw⟩ : ∃ w', u11.alloc (.cells #[.slice ag ng capg, .int .i64 pg, .int .i64 jg] 38) = w' := ⟨_, rfl⟩
  have hz : Below u11.heap.size u11 u12 := by rw [← hw]; exact below_box _
  have hsg : W.heap.size < u11.heap.size := HD.out.lt
  have NEg := Lib.hid (show u11.heap.size ≠ W.heap.size ∧ ∀ y, ag = some y → ¬ y.block = W.heap.size from ⟨by omega, fun y hy => by have h1 := hx y hy; have h2 := hsz; omega⟩)
  have XR := Lib.hid (XR.out.below hz)
  have XL := Lib.hid (XL.out.below hz)
  have XQ := Lib.hid (XQ.out.below hz)
  have Xf := Lib.hid (Xf.out.under hz)
  have Xg := Lib.hid (show Bx u12 u11.heap.size ag ng capg pg jg zg by rw [← hw]; exact Bx.new hr)
  have HD := Lib.hid (HD.out.below hz)
  have HW := Lib.hid hw
  clear hw hz hsg hr hx hsz
  go_upto_region 6 with fail
  try rw [HW.out]
  obtain ⟨Bg, hB⟩ : ∃ B, u11.heap.size = B := ⟨_, rfl⟩
  rw [hB] at Xg NEg
  try rw [hB]
  clear HW hB
  have HLA := Lib.hid (later_pace Ff.out (by have := Opn.out; omega) (by have := Oln.out; omega) (by have := OS.out; omega) HX.out)
  obtain ⟨c0, c1, c2, c3, c4, c5⟩ := Xf.out.box
  go_wp2_with fail
  clear c0 c1 c2 c3 c4 c5
  have hsz : W.heap.size < u12.heap.size := HD.out.lt
  refine ((rlater_ok af nf capf zf pf jf Ff.out.good d d rfl (by have := Nd.out; omega) _ Xf.out.row).mono fun _ _ h => (GivesE.to HLA.out h).ok Fg.out.can).mono ?_
  rintro e u13 ⟨ax, nx, capx, zx, px, jx, rfl, hb, hr, hf, hx⟩
  have Fx := Lib.hid hf
  have HD := Lib.hid (HD.out.below hb)
  have XR := Lib.hid (XR.out.below hb)
  have XL := Lib.hid (XL.out.below hb)
  have XQ := Lib.hid (XQ.out.below hb)
  have Xf := Lib.hid (Xf.out.under hb)
  have Xg := Lib.hid (Xg.out.under hb)
  clear hb hf
  obtain ⟨u14, hw⟩ : ∃ w', u13.alloc (.cells #[.slice ax nx capx, .int .i64 px, .int .i64 jx] 38) = w' := ⟨_, rfl⟩
  have hz : Below u13.heap.size u13 u14 := by rw [← hw]; exact below_box _
  have hsx : W.heap.size < u13.heap.size := HD.out.lt
  have NEx := Lib.hid (show u13.heap.size ≠ W.heap.size ∧ ∀ y, ax = some y → ¬ y.block = W.heap.size from ⟨by omega, fun y hy => by have h1 := hx y hy; have h2 := hsz; omega⟩)
  have XR := Lib.hid (XR.out.below hz)
  have XL := Lib.hid (XL.out.below hz)
  have XQ := Lib.hid (XQ.out.below hz)
  have Xf := Lib.hid (Xf.out.under hz)
  have Xg := Lib.hid (Xg.out.under hz)
  have Xx := Lib.hid (show Bx u14 u13.heap.size ax nx capx px jx zx by rw [← hw]; exact Bx.new hr)
  have HD := Lib.hid (HD.out.below hz)
  have HW := Lib.hid hw
  clear hw hz hsx hr hx hsz
  go_upto_region 7 with fail
  try rw [HW.out]
  obtain ⟨Bx, hB⟩ : ∃ B, u13.heap.size = B := ⟨_, rfl⟩
  rw [hB] at Xx NEx
  try rw [hB]
  clear HW hB
  obtain ⟨hz1, hz2, hz3⟩ := Fx.out.unique Fg.out
  subst hz1
  subst hz2
  subst hz3
  obtain ⟨c0, c1, c2, c3, c4, c5⟩ := Xg.out.box
  obtain ⟨d0, d1, d2, d3, d4, d5⟩ := Xx.out.box
  go_wp2_with fail
  clear c0 c1 c2 c3 c4 c5 d0 d1 d2 d3 d4 d5
  refine (rsame_any _ _ _ zx px jx _ _ _ zx px jx true (sameB_iff.2 ⟨rfl, rfl, rfl⟩) _ Xg.out.row Xx.out.row).mono ?_
  rintro e u15 ⟨rfl, hb⟩
  have HD := Lib.hid (HD.out.below hb)
  have XR := Lib.hid (XR.out.below hb)
  have XL := Lib.hid (XL.out.below hb)
  have XQ := Lib.hid (XQ.out.below hb)
  have Xf := Lib.hid (Xf.out.under hb)
  have Xg := Lib.hid (Xg.out.under hb)
  have Xx := Lib.hid (Xx.out.under hb)
  clear hb
  go_wp2_with fail
  refine (awake12 _).mono ?_
  rintro e u16 ⟨rfl, hb⟩
  have HD := Lib.hid (HD.out.below hb)
  clear hb
  go_wp2_with fail
  go_ret
  exact ⟨rfl, HB1.out.trans (HD.out.ap.below (Nat.le_refl _) HB1.out.size)⟩

end Go.Proofs.Ytjipmkgnndldpaa
