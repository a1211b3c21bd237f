/- The walk of ClosureScales. By the verifier's side. -/
import Derived.Test.YtcpfphlijeajiaaGcCloFCloXCloG
import Derived.Test.YtcpfphlijeajiaaGcCloSRScaRMax
import Derived.Test.YtcpfphlijeajiaaGcZeroZero3
namespace Go.Proofs.Ytcpfphlijeajiaa
open Go.RowKit
set_option linter.unusedSimpArgs false
set_option linter.unusedVariables false

theorem zero_day2 {most : Nat} {zs : List Int} {p : Nat} {inc : Int} (hf : ¬ InfC zs) (h : Sm3 most zs p inc) : Day (eC zs p inc) := by
  obtain ⟨c, hc⟩ := (h.2 hf).2
  refine ⟨most, _, (by rw [encF_eC]; exact hc.mul 2), .inr fun t _ => ?_⟩
  rw [encF_eC, eC_fin hf]
theorem ratMost_is2 (a1 : Option Addr) (n1 cap1 : Nat) (z1 : List Int) (p1 : Nat) (i1 : Int) (g1 : Good z1 p1 i1) (a2 : Option Addr) (n2 cap2 : Nat) (z2 : List Int) (p2 : Nat) (i2 : Int) (g2 : Good z2 p2 i2) (h : ∀ t, ole (eC z1 p1 i1 t) (eC z2 p2 i2 t)) (w : World) (h1 : RowZ w a1 n1 cap1 z1) (h2 : RowZ w a2 n2 cap2 z2) :
    Calls Try.prog 32 #[curV a1 n1 cap1 p1 i1, curV a2 n2 cap2 p2 i2] w (Says (.bool true) w) :=
  ratMost_ok a1 n1 cap1 z1 p1 i1 g1 a2 n2 cap2 z2 p2 i2 g2 0 false w h1 h2 (excP_of h)

set_option maxRecDepth 100000 in
set_option maxHeartbeats 6400000 in
theorem closureScales_walk (W : World) (a : Option Addr) (n cap : Nat) (hrow : RowAt W a n cap) :
    Calls Try.prog 9 #[.slice a n cap] W fun e w' => e = .returned (.bool true) ∧ Below W.heap.size W w' := by
  have HR := Lib.hid hrow
  clear hrow
  go_enter Try.func9, Try.ntmps9
  go_wp2_with fail
  refine (new_any a n cap _ HR.out).mono ?_
  rintro e u1 ⟨rfl, hb1, hz1, ra, rn, rc, hs1⟩
  have HB1 := Lib.hid hb1
  have HS1 := Lib.hid hs1
  have Z1 := Lib.hid hz1
  clear hb1 hz1 hs1
  go_wp2_with fail
  refine (zero_any3 5 (by omega) (by omega) _ ra rn rc _ HS1.out).mono ?_
  rintro e u2 ⟨af, nf, capf, zf, pf, jf, rfl, hs2, he2, hr2, hg2, hn2, h02, hsm2, hx2⟩
  have OF := Lib.hid (And.intro hg2 (zero_day2 hn2 hsm2))
  have FF := Lib.hid (And.intro hn2 (hsm2.2 hn2).1)
  have HS2 := Lib.hid hs2
  have R2 := Lib.hid hr2
  have X2 := Lib.hid (show ∀ x, af = some x → ¬ x.block = W.heap.size from fun x hx => by have := hx2 x hx; have := Z1.out; omega)
  have HB2 := Lib.hid (HB1.out.trans (he2.below (Nat.le_refl _) HB1.out.size))
  clear hs2 he2 hr2 hg2 hn2 h02 hsm2 hx2
  go_wp2_with fail
  refine (zero_any3 4 (by omega) (by omega) _ ra rn rc _ HS2.out).mono ?_
  rintro e u3 ⟨ag, ng, capg, zg, pg, jg, rfl, hs3, he3, hr3, hg3, hn3, h03, hsm3, hx3⟩
  have OG := Lib.hid (And.intro hg3 (zero_day2 hn3 hsm3))
  have HS3 := Lib.hid hs3
  have h9 : W.heap.size < u2.heap.size := lt_of_cell (src_cell HS2.out)
  have X3 := Lib.hid (show ∀ x, ag = some x → ¬ x.block = W.heap.size from fun x hx => by have := hx3 x hx; omega)
  have R3 := Lib.hid (And.intro (R2.out.apart he3 X2.out) hr3)
  have HB3 := Lib.hid (HB2.out.trans (he3.below (Nat.le_refl _) HB2.out.size))
  clear hs3 he3 hr3 hg3 hn3 h03 hsm3 hx3 h9
  go_wp2_with fail
  refine (n_any 7 (by omega) (by omega) _ ra rn rc _ HS3.out).mono ?_
  rintro e u4 ⟨r, ⟨r0, r1⟩, rfl, hs4, he4⟩
  have R4 := Lib.hid (And.intro (R3.out.1.apart he4.apart X2.out) (R3.out.2.apart he4.apart X3.out))
  have HB4 := Lib.hid (HB3.out.trans (he4.below (Nat.le_refl _)))
  clear hs4 he4
  obtain ⟨ki, hki⟩ : ∃ ki, 1 + r = ki := ⟨_, rfl⟩
  have hkw : IntKind.i64.wrap (1 + r) = ki := by rw [hki]; exact IntWalk.i64_in _ ⟨by omega, by omega⟩
  have HK := Lib.hid (show 1 ≤ ki ∧ ki ≤ 9 from ⟨by omega, by omega⟩)
  obtain ⟨yf, qf, kf, nf1⟩ := OF.out.1.norm_ex
  have NF := Lib.hid (And.intro nf1 (clo_norm OF.out.1 nf1))
  clear nf1
  obtain ⟨w0, hw⟩ : ∃ w', (u4.alloc (.cells #[.slice af nf capf, .int .i64 pf, .int .i64 jf] 24)).alloc (.cells #[.slice ag ng capg, .int .i64 pg, .int .i64 jg] 24) = w' := ⟨_, rfl⟩
  have hz : Below u4.heap.size u4 w0 := by rw [← hw]; exact (below_box _).alloc (by simp) _
  have Xf := Lib.hid (show Bx w0 u4.heap.size af nf capf pf jf zf by rw [← hw]; exact (Bx.new R4.out.1).under (below_box _))
  have Xg := Lib.hid (show Bx w0 (u4.heap.size + 1) ag ng capg pg jg zg by
    rw [← hw]
    have := Bx.new (p := pg) (inc := jg) (R4.out.2.alloc (.cells #[.slice af nf capf, .int .i64 pf, .int .i64 jf] 24))
    rwa [show (u4.alloc (.cells #[.slice af nf capf, .int .i64 pf, .int .i64 jf] 24)).heap.size = u4.heap.size + 1 by simp] at this)
  have HB5 := Lib.hid (HB4.out.trans (hz.mono HB4.out.size))
  have HW0 := Lib.hid hw
  clear hw hz HB1 HB2 HB3 HB4 HS1 HS2 HS3 R2 R3 R4 X2 X3 Z1
  go_upto_region 3 with fail
  try rw [HW0.out]
  clear HW0 hki hkw r0 r1
  obtain ⟨F, hF⟩ : ∃ F, u4.heap.size = F := ⟨_, rfl⟩
  rw [hF] at Xf Xg
  try rw [hF]
  clear hF
  obtain ⟨G, hG⟩ : ∃ G, F + 1 = G := ⟨_, rfl⟩
  rw [hG] at Xg
  try rw [hG]
  clear hG
  obtain ⟨c0, c1, c2, c3, c4, c5⟩ := Xf.out.box
  go_wp2_with fail
  clear c0 c1 c2 c3 c4 c5
  refine ((clof_any af nf capf zf pf jf OF.out.1 NF.out.1 _ Xf.out.row).mono fun _ _ h => h.z).mono ?_
  rintro e v1 ⟨ah, nh, caph, zh, ph, jh, ch, rfl, hb, hr, hm, hx⟩
  obtain ⟨w1, hw⟩ : ∃ w', v1.alloc (.cells #[.slice ah nh caph, .int .i64 ph, .int .i64 jh] 24) = w' := ⟨_, rfl⟩
  have hz : Below w0.heap.size w0 w1 := by rw [← hw]; exact hb.trans ((below_box _).mono hb.size)
  have HM1 := Lib.hid hm
  have Yf := Lib.hid (Xf.out.under hz)
  have Yg := Lib.hid (Xg.out.under hz)
  have Yh := Lib.hid (show Cur3 w1 v1.heap.size (.slice ah nh caph) (.int .i64 ph) (.int .i64 jh) ∧ RowZ w1 ah nh caph zh by rw [← hw]; exact ⟨Cur3.new v1 _ _ _ _, hr.alloc _⟩)
  have HB6 := Lib.hid (HB5.out.trans (hz.mono HB5.out.size))
  have HW1 := Lib.hid hw
  clear hb hr hm hx hz hw Xf Xg HB5
  go_upto_region 4 with fail
  try rw [HW1.out]
  clear HW1
  obtain ⟨H, hH⟩ : ∃ H, v1.heap.size = H := ⟨_, rfl⟩
  rw [hH] at Yh
  try rw [hH]
  clear hH
  have HCAN := Lib.hid (show ECan (eScale ki zf pf jf) from mul_can OF.out.1 (fun t x ht h => by rw [eC_fin FF.out.1] at h; cases h; have := FF.out.2 t; omega) HK.out.1 HK.out.2)
  obtain ⟨c0, c1, c2, c3, c4, c5⟩ := Yf.out.box
  go_wp2_with fail
  clear c0 c1 c2 c3 c4 c5
  refine ((rscale_ok af nf capf zf pf jf OF.out.1 ki HK.out.1 (by have := HK.out.2; omega) _ Yf.out.row).mono fun _ _ h => h.ok HCAN.out).mono ?_
  rintro e v2 ⟨ax, nx, capx, zx, px, jx, rfl, hb, hr, hf, hx⟩
  obtain ⟨w2, hw⟩ : ∃ w', v2.alloc (.cells #[.slice ax nx capx, .int .i64 px, .int .i64 jx] 24) = w' := ⟨_, rfl⟩
  have hz : Below w1.heap.size w1 w2 := by rw [← hw]; exact hb.trans ((below_box _).mono hb.size)
  have OX := Lib.hid hf
  have NX := Lib.hid (show NormC zx px jx zx px jx from by obtain ⟨_, _, h⟩ := norm_self hf; exact h)
  have SC := Lib.hid (clo_scale_can OF.out.1 FF.out.1 FF.out.2 NF.out.1 HK.out.1 HK.out.2 hf)
  have Xf := Lib.hid (Yf.out.under hz)
  have Xg := Lib.hid (Yg.out.under hz)
  have Xh := Lib.hid (And.intro (Yh.out.1.below hz) (Yh.out.2.under hz))
  have Xx := Lib.hid (show Bx w2 v2.heap.size ax nx capx px jx zx by rw [← hw]; exact Bx.new hr)
  have HB7 := Lib.hid (HB6.out.trans (hz.mono HB6.out.size))
  have HW2 := Lib.hid hw
  clear hb hr hf hx hz hw Yf Yg Yh HB6
  go_upto_region 5 with fail
  try rw [HW2.out]
  clear HW2
  obtain ⟨c0, c1, c2, c3, c4, c5⟩ := Xx.out.box
  go_wp2_with fail
  clear c0 c1 c2 c3 c4 c5
  refine ((clof_any ax nx capx zx px jx OX.out.1 NX.out _ Xx.out.row).mono fun _ _ h => h.z).mono ?_
  rintro e v3 ⟨ab, nb, capb, zb, pb, jb, cb, rfl, hb, hr, hm, hx⟩
  obtain ⟨w3, hw⟩ : ∃ w', v3.alloc (.cells #[.slice ab nb capb, .int .i64 pb, .int .i64 jb] 24) = w' := ⟨_, rfl⟩
  have hz : Below w2.heap.size w2 w3 := by rw [← hw]; exact hb.trans ((below_box _).mono hb.size)
  have HM2 := Lib.hid hm
  have Yf := Lib.hid (Xf.out.under hz)
  have Yg := Lib.hid (Xg.out.under hz)
  have Yh := Lib.hid (And.intro (Xh.out.1.below hz) (Xh.out.2.under hz))
  have Yb := Lib.hid (show Cur3 w3 v3.heap.size (.slice ab nb capb) (.int .i64 pb) (.int .i64 jb) ∧ RowZ w3 ab nb capb zb by rw [← hw]; exact ⟨Cur3.new v3 _ _ _ _, hr.alloc _⟩)
  have HB8 := Lib.hid (HB7.out.trans (hz.mono HB7.out.size))
  have HW3 := Lib.hid hw
  clear hb hr hm hx hz hw Xf Xg Xh Xx HB7
  go_upto_region 6 with fail
  try rw [HW3.out]
  clear HW3
  rcases HM1.out with ⟨rfl, rh, rfl, hf1, hcan1⟩ | ⟨rfl, hno1⟩
  rotate_left
  · rcases HM2.out with ⟨rfl, rb, rfl, hf2, hcan2⟩ | ⟨rfl, hno2⟩
    · exact absurd (SC.out.1.1 hcan2) hno1
    · clear hno1 hno2
      go_wp2_with fail
      refine (awake9 _).mono ?_
      rintro e y9 ⟨rfl, hb⟩
      have HBZ := Lib.hid (HB8.out.trans (hb.mono HB8.out.size))
      clear hb
      go_wp2_with fail
      go_ret
      exact ⟨rfl, HBZ.out⟩
  rcases HM2.out with ⟨rfl, rb, rfl, hf2, hcan2⟩ | ⟨rfl, hno2⟩
  rotate_left
  · exact absurd (SC.out.1.2 hcan1) hno2
  have OH := Lib.hid (show EForm zh rh jh (oclo (eC zf pf jf)) from by rw [← NF.out.2]; exact hf1)
  have OB := Lib.hid (show EForm zb rb jb (fun t => omap (fun x => ki * x) (oclo (eC zf pf jf) t)) from by rw [← SC.out.2]; exact hf2)
  clear hf1 hf2 hcan1 hcan2 HM1 HM2
  have HC2 := Lib.hid (show ECan (eScale ki zh rh jh) from mul_can OH.out.1 (fun t x ht h => by
    rw [OH.out.2.1] at h
    rcases Nat.eq_zero_or_pos t with rfl | h1
    · rw [clo_zero] at h; cases h; omega
    · have hle := clo_le (E := eC zf pf jf) h1
      rw [eC_fin FF.out.1] at hle
      obtain ⟨y, hy, hyl⟩ := hle _ rfl
      rw [hy] at h; cases h
      have := FF.out.2 t; omega) HK.out.1 HK.out.2)
  obtain ⟨c0, c1, c2, c3, c4, c5⟩ := Yh.out.1
  go_wp2_with fail
  clear c0 c1 c2 c3 c4 c5
  refine ((rscale_ok ah nh caph zh rh jh OH.out.1 ki HK.out.1 (by have := HK.out.2; omega) _ Yh.out.2).mono fun _ _ h => h.ok HC2.out).mono ?_
  rintro e v4 ⟨ac, nc, capc, zc, pc, jc, rfl, hb, hr, hf, hx⟩
  obtain ⟨w4, hw⟩ : ∃ w', v4.alloc (.cells #[.slice ac nc capc, .int .i64 pc, .int .i64 jc] 24) = w' := ⟨_, rfl⟩
  have hz : Below w3.heap.size w3 w4 := by rw [← hw]; exact hb.trans ((below_box _).mono hb.size)
  have OC := Lib.hid (show EForm zc pc jc (fun t => omap (fun x => ki * x) (oclo (eC zf pf jf) t)) from by
    have e : eScale ki zh rh jh = fun t => omap (fun x => ki * x) (oclo (eC zf pf jf) t) := funext fun t => by unfold eScale; rw [OH.out.2.1]
    rw [← e]; exact hf)
  have Xf := Lib.hid (Yf.out.under hz)
  have Xg := Lib.hid (Yg.out.under hz)
  have Xh := Lib.hid (And.intro (Yh.out.1.below hz) (Yh.out.2.under hz))
  have Xb := Lib.hid (And.intro (Yb.out.1.below hz) (Yb.out.2.under hz))
  have Xc := Lib.hid (show Bx w4 v4.heap.size ac nc capc pc jc zc by rw [← hw]; exact Bx.new hr)
  have HB9 := Lib.hid (HB8.out.trans (hz.mono HB8.out.size))
  have HW4 := Lib.hid hw
  clear hb hr hf hx hz hw Yf Yg Yh Yb HB8
  go_upto_region 11 with fail
  try rw [HW4.out]
  clear HW4
  obtain ⟨c0, c1, c2, c3, c4, c5⟩ := Xb.out.1
  obtain ⟨d0, d1, d2, d3, d4, d5⟩ := Xc.out.box
  go_wp2_with fail
  clear c0 c1 c2 c3 c4 c5 d0 d1 d2 d3 d4 d5
  refine (same_at OB.out OC.out _ Xb.out.2 Xc.out.row).mono ?_
  rintro e w5 ⟨rfl, hb⟩
  have S7 := Lib.hid (show Bx w5 F af nf capf pf jf zf ∧ Bx w5 G ag ng capg pg jg zg ∧ (Cur3 w5 H (.slice ah nh caph) (.int .i64 rh) (.int .i64 jh) ∧ RowZ w5 ah nh caph zh) ∧ Below W.heap.size W w5 from ⟨Xf.out.under hb, Xg.out.under hb, ⟨Xh.out.1.below hb, Xh.out.2.under hb⟩, HB9.out.trans (hb.mono HB9.out.size)⟩)
  clear hb Xf Xg Xh Xb Xc HB9
  obtain ⟨c0, c1, c2, c3, c4, c5⟩ := S7.out.1.box
  obtain ⟨d0, d1, d2, d3, d4, d5⟩ := S7.out.2.1.box
  go_wp2_with fail
  clear c0 c1 c2 c3 c4 c5 d0 d1 d2 d3 d4 d5
  obtain ⟨L, hL120, hL⟩ := lcm_day OF.out.1 OG.out.1 OF.out.2 OG.out.2
  refine ((rmax_ok af nf capf zf pf jf OF.out.1 ag ng capg zg pg jg OG.out.1 L hL hL120 _ S7.out.1.row S7.out.2.1.row).mono fun _ _ h => h.y).mono ?_
  rintro e v8 ⟨am, nm, capm, zm, pm, jm, cm, rfl, hb, hr, hm, hcm, hx⟩
  obtain ⟨w8, hw⟩ : ∃ w', v8.alloc (.cells #[.slice am nm capm, .int .i64 pm, .int .i64 jm] 24) = w' := ⟨_, rfl⟩
  have hz : Below w5.heap.size w5 w8 := by rw [← hw]; exact hb.trans ((below_box _).mono hb.size)
  have HM := Lib.hid hm
  have S8 := Lib.hid (show (Cur3 w8 H (.slice ah nh caph) (.int .i64 rh) (.int .i64 jh) ∧ RowZ w8 ah nh caph zh) ∧ Below W.heap.size W w8 from ⟨⟨S7.out.2.2.1.1.below hz, S7.out.2.2.1.2.under hz⟩, S7.out.2.2.2.trans (hz.mono S7.out.2.2.2.size)⟩)
  have Xm := Lib.hid (show Cur3 w8 v8.heap.size (.slice am nm capm) (.int .i64 pm) (.int .i64 jm) ∧ RowZ w8 am nm capm zm by rw [← hw]; exact ⟨Cur3.new v8 _ _ _ _, hr.alloc _⟩)
  have HW8 := Lib.hid hw
  clear hb hr hm hx hz hw S7 hcm hL hL120
  go_upto_region 14 with fail
  try rw [HW8.out]
  clear HW8
  obtain ⟨c0, c1, c2, c3, c4, c5⟩ := Xm.out.1
  rcases HM.out with ⟨rfl, r, rfl, hf⟩ | ⟨hne, rfl, rfl, rfl⟩
  · have HFM := Lib.hid hf
    have NM := Lib.hid (show NormC zm r jm zm r jm from by obtain ⟨_, _, h⟩ := norm_self hf; exact h)
    clear hf
    go_wp2_with fail
    clear c0 c1 c2 c3 c4 c5
    refine ((clof_any am nm capm zm r jm HFM.out.1 NM.out _ Xm.out.2).mono fun _ _ h => h.y).mono ?_
    rintro e v9 ⟨ao, no, capo, zo, po, jo, co, rfl, hb, hr, hm, hx⟩
    obtain ⟨w9, hw⟩ : ∃ w', v9.alloc (.cells #[.slice ao no capo, .int .i64 po, .int .i64 jo] 24) = w' := ⟨_, rfl⟩
    have hz : Below w8.heap.size w8 w9 := by rw [← hw]; exact hb.trans ((below_box _).mono hb.size)
    have HO := Lib.hid (show (co = 0 ∧ ∃ r' : Nat, po = r' ∧ EForm zo r' jo (oclo (eMax zf pf jf zg pg jg))) ∨ co = 3 from by
      rcases hm with ⟨h1, r', h2, h3⟩ | ⟨h1, _⟩
      · refine .inl ⟨h1, r', h2, ?_⟩
        unfold eClo at h3
        rwa [funext HFM.out.2.1] at h3
      · exact .inr h1)
    have S9 := Lib.hid (show (Cur3 w9 H (.slice ah nh caph) (.int .i64 rh) (.int .i64 jh) ∧ RowZ w9 ah nh caph zh) ∧ Below W.heap.size W w9 from ⟨⟨S8.out.1.1.below hz, S8.out.1.2.under hz⟩, S8.out.2.trans (hz.mono S8.out.2.size)⟩)
    have Xo := Lib.hid (show Cur3 w9 v9.heap.size (.slice ao no capo) (.int .i64 po) (.int .i64 jo) ∧ RowZ w9 ao no capo zo by rw [← hw]; exact ⟨Cur3.new v9 _ _ _ _, hr.alloc _⟩)
    have HW9 := Lib.hid hw
    clear hb hr hm hx hz hw S8
    go_upto_region 15 with fail
    try rw [HW9.out]
    clear HW9
    rcases HO.out with ⟨rfl, r', rfl, hf⟩ | rfl
    · have HFO := Lib.hid hf
      clear hf
      obtain ⟨c0, c1, c2, c3, c4, c5⟩ := S9.out.1.1
      obtain ⟨d0, d1, d2, d3, d4, d5⟩ := Xo.out.1
      go_wp2_with fail
      clear c0 c1 c2 c3 c4 c5 d0 d1 d2 d3 d4 d5
      have HLO := Lib.hid (show ∀ t, ole (eC zh rh jh t) (eC zo r' jo t) from fun t => by
        rw [OH.out.2.1, HFO.out.2.1]
        exact clo_mono (fun t _ => ole_omax_l _ _) t)
      refine (ratMost_is2 ah nh caph zh rh jh OH.out.1 ao no capo zo r' jo HFO.out.1 HLO.out _ S9.out.1.2 Xo.out.2).mono ?_
      rintro e w10 ⟨rfl, hb⟩
      have HBQ := Lib.hid (S9.out.2.trans (hb.mono S9.out.2.size))
      clear hb
      go_wp2_with fail
      refine (awake9 _).mono ?_
      rintro e y9 ⟨rfl, hb⟩
      have HBZ := Lib.hid (HBQ.out.trans (hb.mono HBQ.out.size))
      clear hb
      go_wp2_with fail
      go_ret
      exact ⟨rfl, HBZ.out⟩
    · have HBQ := Lib.hid S9.out.2
      go_wp2_with fail
      refine (awake9 _).mono ?_
      rintro e y9 ⟨rfl, hb⟩
      have HBZ := Lib.hid (HBQ.out.trans (hb.mono HBQ.out.size))
      clear hb
      go_wp2_with fail
      go_ret
      exact ⟨rfl, HBZ.out⟩
  · have t1 : (cm != 0) = true := by simpa using hne
    clear hne
    go_wp2_with fail
    clear c0 c1 c2 c3 c4 c5
    refine (clof_bad am nm capm [] 0 0 ⟨by omega, by omega⟩ ⟨by omega, by omega⟩ okC_zero _ Xm.out.2).mono ?_
    rintro e v9 ⟨rfl, hb⟩
    have HBQ := Lib.hid (S8.out.2.trans ((hb.trans ((below_box (.cells #[.slice none 0 0, .int .i64 0, .int .i64 0] 24)).mono hb.size)).mono S8.out.2.size))
    clear hb
    go_wp2_with fail
    refine (awake9 _).mono ?_
    rintro e y9 ⟨rfl, hb⟩
    have HBZ := Lib.hid (HBQ.out.trans (hb.mono HBQ.out.size))
    clear hb
    go_wp2_with fail
    go_ret
    exact ⟨rfl, HBZ.out⟩

end Go.Proofs.Ytcpfphlijeajiaa
