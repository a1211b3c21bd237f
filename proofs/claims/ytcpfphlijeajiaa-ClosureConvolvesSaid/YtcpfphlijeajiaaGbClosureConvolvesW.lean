/- The walk of ClosureConvolves. By the verifier's side. -/
import Derived.Test.YtcpfphlijeajiaaGbCloFCloXCloG
import Derived.Test.YtcpfphlijeajiaaGbCloRConBad
import Derived.Test.YtcpfphlijeajiaaGbZeroZero3
import Derived.Deep.CutBlock
namespace Go.Proofs.Ytcpfphlijeajiaa
open Go.RowKit
set_option linter.unusedSimpArgs false
set_option linter.unusedVariables false

set_option maxRecDepth 100000 in
set_option maxHeartbeats 6400000 in
theorem closureConvolves_walk (W : World) (a : Option Addr) (n cap : Nat) (hrow : RowAt W a n cap) :
    Calls Try.prog 7 #[.slice a n cap] W fun e w' => e = .returned (.bool true) ∧ Below W.heap.size W w' := by
  have HR := Lib.hid hrow
  clear hrow
  go_enter Try.func7, Try.ntmps7
  go_wp2_with fail
  refine (new_any a n cap _ HR.out).mono ?_
  rintro e u1 ⟨rfl, hb1, hz1, ra, rn, rc, hs1⟩
  have HB1 := Lib.hid hb1
  have HS1 := Lib.hid hs1
  have Z1 := Lib.hid hz1
  clear hb1 hz1 hs1
  go_wp2_with fail
  refine (zero_any3 4 (by omega) (by omega) _ ra rn rc _ HS1.out).mono ?_
  rintro e u2 ⟨af, nf, capf, zf, pf, jf, rfl, hs2, he2, hr2, hg2, hn2, h02, hsm2, hx2⟩
  have GF := Lib.hid hg2
  have HS2 := Lib.hid hs2
  have R2 := Lib.hid hr2
  have HB2 := Lib.hid (HB1.out.trans (he2.below (Nat.le_refl _) HB1.out.size))
  obtain ⟨yf, qf, kf, nf1⟩ := hg2.norm_ex
  have NF := Lib.hid (And.intro nf1 (clo_norm hg2 nf1))
  clear hs2 he2 hr2 hg2 hn2 h02 hsm2 hx2 nf1
  go_wp2_with fail
  refine ((clof_any af nf capf zf pf jf GF.out NF.out.1 _ R2.out).mono fun _ _ h => h.y).mono ?_
  rintro e v1 ⟨ah, nh, caph, zh, ph, jh, ch, rfl, hb, hr, hm, hx⟩
  obtain ⟨w1, hw⟩ : ∃ w', v1.alloc (.cells #[.slice ah nh caph, .int .i64 ph, .int .i64 jh] 24) = w' := ⟨_, rfl⟩
  have hz : Below u2.heap.size u2 w1 := by rw [← hw]; exact hb.trans ((below_box _).mono hb.size)
  have hsz : W.heap.size < u2.heap.size := lt_of_cell (src_cell HS2.out)
  have HM1 := Lib.hid hm
  have HS3 := Lib.hid (show SrcAt w1 W.heap.size ra rn rc from src_under HS2.out hz)
  have Xh := Lib.hid (show Cur3 w1 v1.heap.size (.slice ah nh caph) (.int .i64 ph) (.int .i64 jh) ∧ RowZ w1 ah nh caph zh by rw [← hw]; exact ⟨Cur3.new v1 _ _ _ _, hr.alloc _⟩)
  have FH := Lib.hid (show (∀ x, ah = some x → ¬ x.block = W.heap.size) ∧ ¬ v1.heap.size = W.heap.size from ⟨fun x h => by have := hx x h; omega, by have := hb.size; omega⟩)
  have HB3 := Lib.hid (HB2.out.trans (hz.mono HB2.out.size))
  have HW1 := Lib.hid hw
  clear hb hr hm hx hz hw hsz R2 HB1 HB2 HS1 HS2 Z1
  go_upto_region 3 with fail
  try rw [HW1.out]
  clear HW1
  obtain ⟨F, hF⟩ : ∃ F, v1.heap.size = F := ⟨_, rfl⟩
  rw [hF] at Xh FH
  try rw [hF]
  clear hF
  go_wp2_with fail
  refine (zero_any3 4 (by omega) (by omega) _ ra rn rc _ HS3.out).mono ?_
  rintro e u3 ⟨ag, ng, capg, zg, pg, jg, rfl, hs3, he3, hr3, hg3, hn3, h03, hsm3, hx3⟩
  have GG := Lib.hid hg3
  have R3 := Lib.hid hr3
  have Xh3 := Lib.hid (show Cur3 u3 F (.slice ah nh caph) (.int .i64 ph) (.int .i64 jh) ∧ RowZ u3 ah nh caph zh from ⟨Xh.out.1.apart he3 FH.out.2, Xh.out.2.apart he3 FH.out.1⟩)
  have HB4 := Lib.hid (HB3.out.trans (he3.below (Nat.le_refl _) HB3.out.size))
  obtain ⟨yg, qg, kg, ng1⟩ := hg3.norm_ex
  have NG := Lib.hid (And.intro ng1 (clo_norm hg3 ng1))
  clear hs3 he3 hr3 hg3 hn3 h03 hsm3 hx3 ng1 Xh HB3 HS3
  go_wp2_with fail
  refine ((clof_any ag ng capg zg pg jg GG.out NG.out.1 _ R3.out).mono fun _ _ h => h.y).mono ?_
  rintro e v2 ⟨ak, nk, capk, zk, pk, jk, ck, rfl, hb, hr, hm, hx⟩
  obtain ⟨w2, hw⟩ : ∃ w', v2.alloc (.cells #[.slice ak nk capk, .int .i64 pk, .int .i64 jk] 24) = w' := ⟨_, rfl⟩
  have hz : Below u3.heap.size u3 w2 := by rw [← hw]; exact hb.trans ((below_box _).mono hb.size)
  have HM2 := Lib.hid hm
  have Yh := Lib.hid (And.intro (Xh3.out.1.below hz) (Xh3.out.2.under hz))
  have Yk := Lib.hid (show Cur3 w2 v2.heap.size (.slice ak nk capk) (.int .i64 pk) (.int .i64 jk) ∧ RowZ w2 ak nk capk zk by rw [← hw]; exact ⟨Cur3.new v2 _ _ _ _, hr.alloc _⟩)
  have HB5 := Lib.hid (HB4.out.trans (hz.mono HB4.out.size))
  have HW2 := Lib.hid hw
  clear hb hr hm hx hz hw R3 HB4 Xh3 FH
  go_upto_region 4 with fail
  try rw [HW2.out]
  clear HW2
  obtain ⟨G, hG⟩ : ∃ G, v2.heap.size = G := ⟨_, rfl⟩
  rw [hG] at Yk
  try rw [hG]
  clear hG
  rcases HM1.out with ⟨rfl, r1, rfl, hf1⟩ | ⟨rfl, _⟩
  rotate_left
  · rcases HM2.out with ⟨rfl, r2, rfl, hf2⟩ | ⟨rfl, _⟩
    all_goals
      go_wp2_with fail
      refine (awake9 _).mono ?_
      rintro e y9 ⟨rfl, hb⟩
      have HBZ := Lib.hid (HB5.out.trans (hb.mono HB5.out.size))
      clear hb
      go_wp2_with fail
      go_ret
      exact ⟨rfl, HBZ.out⟩
  rcases HM2.out with ⟨rfl, r2, rfl, hf2⟩ | ⟨rfl, _⟩
  rotate_left
  · go_wp2_with fail
    refine (awake9 _).mono ?_
    rintro e y9 ⟨rfl, hb⟩
    have HBZ := Lib.hid (HB5.out.trans (hb.mono HB5.out.size))
    clear hb
    go_wp2_with fail
    go_ret
    exact ⟨rfl, HBZ.out⟩
  have O1 := Lib.hid (show EForm zh r1 jh (oclo (eC zf pf jf)) from by rw [← NF.out.2]; exact hf1)
  have O2 := Lib.hid (show EForm zk r2 jk (oclo (eC zg pg jg)) from by rw [← NG.out.2]; exact hf2)
  clear hf1 hf2 HM1 HM2
  obtain ⟨L, hL⟩ : ∃ L, LcmN zh r1 jh zk r2 jk L := by
    obtain ⟨y1, q1, j1, m1⟩ := O1.out.1.norm_ex
    obtain ⟨y2, q2, j2, m2⟩ := O2.out.1.norm_ex
    exact ⟨q1 / Nat.gcd q1 q2 * q2, _, _, _, _, _, _, m1, m2, rfl⟩
  have HL := Lib.hid hL
  clear hL
  obtain ⟨c0, c1, c2, c3, c4, c5⟩ := Yh.out.1
  obtain ⟨d0, d1, d2, d3, d4, d5⟩ := Yk.out.1
  go_wp2_with fail
  clear c0 c1 c2 c3 c4 c5 d0 d1 d2 d3 d4 d5
  by_cases hl : L ≤ 120
  rotate_left
  · have HLL := Lib.hid (show 120 < L by omega)
    clear hl
    refine (rmin_lim ah nh caph zh r1 jh O1.out.1 ak nk capk zk r2 jk O2.out.1 L HL.out HLL.out _ Yh.out.2 Yk.out.2).mono ?_
    rintro e v3 ⟨rfl, hb⟩
    obtain ⟨w3, hw⟩ : ∃ w', v3.alloc (.cells #[.slice none 0 0, .int .i64 0, .int .i64 0] 24) = w' := ⟨_, rfl⟩
    have hz : Below w2.heap.size w2 w3 := by rw [← hw]; exact hb.trans ((below_box _).mono hb.size)
    have Zh := Lib.hid (And.intro (Yh.out.1.below hz) (Yh.out.2.under hz))
    have Zk := Lib.hid (And.intro (Yk.out.1.below hz) (Yk.out.2.under hz))
    have HB6 := Lib.hid (HB5.out.trans (hz.mono HB5.out.size))
    have HW3 := Lib.hid hw
    clear hb hz hw Yh Yk HB5
    go_upto_region 7 with fail
    try rw [HW3.out]
    clear HW3
    obtain ⟨c0, c1, c2, c3, c4, c5⟩ := Zh.out.1
    obtain ⟨d0, d1, d2, d3, d4, d5⟩ := Zk.out.1
    go_wp2_with fail
    clear c0 c1 c2 c3 c4 c5 d0 d1 d2 d3 d4 d5
    refine (cof_lim ah nh caph zh r1 jh O1.out.1 ak nk capk zk r2 jk O2.out.1 L HL.out HLL.out _ Zh.out.2 Zk.out.2).mono ?_
    rintro e v4 ⟨rfl, hb⟩
    have HBQ := Lib.hid (HB6.out.trans ((hb.trans ((below_box (.cells #[.slice none 0 0, .int .i64 0, .int .i64 0] 24)).mono hb.size)).mono HB6.out.size))
    clear hb
    go_wp2_with fail
    refine (awake9 _).mono ?_
    rintro e y9 ⟨rfl, hb⟩
    have HBZ := Lib.hid (HBQ.out.trans (hb.mono HBQ.out.size))
    clear hb
    go_wp2_with fail
    go_ret
    exact ⟨rfl, HBZ.out⟩
  have HLL := Lib.hid hl
  clear hl
  refine (rmin_ok ah nh caph zh r1 jh O1.out.1 ak nk capk zk r2 jk O2.out.1 L HL.out HLL.out _ Yh.out.2 Yk.out.2).mono ?_
  rintro e v3 ⟨hb, ⟨am, nm, capm, zm, pm, jm, rfl, hr, hfm, hx⟩ | ⟨rfl, hno⟩⟩
  rotate_left
  · obtain ⟨w3, hw⟩ : ∃ w', v3.alloc (.cells #[.slice none 0 0, .int .i64 0, .int .i64 0] 24) = w' := ⟨_, rfl⟩
    have hz : Below w2.heap.size w2 w3 := by rw [← hw]; exact hb.trans ((below_box _).mono hb.size)
    have Zh := Lib.hid (And.intro (Yh.out.1.below hz) (Yh.out.2.under hz))
    have Zk := Lib.hid (And.intro (Yk.out.1.below hz) (Yk.out.2.under hz))
    have HB6 := Lib.hid (HB5.out.trans (hz.mono HB5.out.size))
    have HW3 := Lib.hid hw
    clear hb hz hw hno Yh Yk HB5
    go_upto_region 7 with fail
    try rw [HW3.out]
    clear HW3
    obtain ⟨c0, c1, c2, c3, c4, c5⟩ := Zh.out.1
    obtain ⟨d0, d1, d2, d3, d4, d5⟩ := Zk.out.1
    go_wp2_with fail
    clear c0 c1 c2 c3 c4 c5 d0 d1 d2 d3 d4 d5
    refine ((cof_ok ah nh caph zh r1 jh O1.out.1 ak nk capk zk r2 jk O2.out.1 L HL.out HLL.out _ Zh.out.2 Zk.out.2).mono fun _ _ h => h.y).mono ?_
    rintro e v4 ⟨ac, nc, capc, zc, pc, jc, cc, rfl, hb, hr, hm, hcm, hx⟩
    have HBQ := Lib.hid (HB6.out.trans ((hb.trans ((below_box (.cells #[.slice ac nc capc, .int .i64 pc, .int .i64 jc] 24)).mono hb.size)).mono HB6.out.size))
    clear hb hr hm hcm hx
    go_wp2_with fail
    refine (awake9 _).mono ?_
    rintro e y9 ⟨rfl, hb⟩
    have HBZ := Lib.hid (HBQ.out.trans (hb.mono HBQ.out.size))
    clear hb
    go_wp2_with fail
    go_ret
    exact ⟨rfl, HBZ.out⟩
  obtain ⟨w3, hw⟩ : ∃ w', v3.alloc (.cells #[.slice am nm capm, .int .i64 pm, .int .i64 jm] 24) = w' := ⟨_, rfl⟩
  have hz : Below w2.heap.size w2 w3 := by rw [← hw]; exact hb.trans ((below_box _).mono hb.size)
  have Zh := Lib.hid (And.intro (Yh.out.1.below hz) (Yh.out.2.under hz))
  have Zk := Lib.hid (And.intro (Yk.out.1.below hz) (Yk.out.2.under hz))
  have Zm := Lib.hid (show Bx w3 v3.heap.size am nm capm pm jm zm by rw [← hw]; exact Bx.new hr)
  have OM := Lib.hid hfm
  have NM := Lib.hid (show NormC zm pm jm zm pm jm from by obtain ⟨_, _, h⟩ := norm_self hfm; exact h)
  have HB6 := Lib.hid (HB5.out.trans (hz.mono HB5.out.size))
  have HW3 := Lib.hid hw
  clear hb hr hfm hx hz hw Yh Yk HB5
  go_upto_region 7 with fail
  try rw [HW3.out]
  clear HW3
  obtain ⟨c0, c1, c2, c3, c4, c5⟩ := Zh.out.1
  obtain ⟨d0, d1, d2, d3, d4, d5⟩ := Zk.out.1
  go_wp2_with fail
  clear c0 c1 c2 c3 c4 c5 d0 d1 d2 d3 d4 d5
  refine (cof_ok ah nh caph zh r1 jh O1.out.1 ak nk capk zk r2 jk O2.out.1 L HL.out HLL.out _ Zh.out.2 Zk.out.2).mono ?_
  rintro e v4 ⟨hb, ⟨ac, nc, capc, zc, pc, jc, rfl, hr, hfc, hx⟩ | ⟨rfl, hno⟩⟩
  rotate_left
  · have HBQ := Lib.hid (HB6.out.trans ((hb.trans ((below_box (.cells #[.slice none 0 0, .int .i64 0, .int .i64 0] 24)).mono hb.size)).mono HB6.out.size))
    clear hb hno
    go_wp2_with fail
    refine (awake9 _).mono ?_
    rintro e y9 ⟨rfl, hb⟩
    have HBZ := Lib.hid (HBQ.out.trans (hb.mono HBQ.out.size))
    clear hb
    go_wp2_with fail
    go_ret
    exact ⟨rfl, HBZ.out⟩
  obtain ⟨w4, hw⟩ : ∃ w', v4.alloc (.cells #[.slice ac nc capc, .int .i64 pc, .int .i64 jc] 24) = w' := ⟨_, rfl⟩
  have hz : Below w3.heap.size w3 w4 := by rw [← hw]; exact hb.trans ((below_box _).mono hb.size)
  have Ym := Lib.hid (Zm.out.under hz)
  have Yc := Lib.hid (show Bx w4 v4.heap.size ac nc capc pc jc zc by rw [← hw]; exact Bx.new hr)
  have OC := Lib.hid hfc
  have HB7 := Lib.hid (HB6.out.trans (hz.mono HB6.out.size))
  have HW4 := Lib.hid hw
  clear hb hr hfc hx hz hw Zh Zk Zm HB6
  go_upto_region 8 with fail
  try rw [HW4.out]
  clear HW4
  obtain ⟨c0, c1, c2, c3, c4, c5⟩ := Ym.out.box
  go_wp2_with fail
  clear c0 c1 c2 c3 c4 c5
  refine ((clof_any am nm capm zm pm jm OM.out.1 NM.out _ Ym.out.row).mono fun _ _ h => h.y).mono ?_
  rintro e v5 ⟨ao, no, capo, zo, po, jo, co, rfl, hb, hr, hm, hx⟩
  obtain ⟨w5, hw⟩ : ∃ w', v5.alloc (.cells #[.slice ao no capo, .int .i64 po, .int .i64 jo] 24) = w' := ⟨_, rfl⟩
  have hz : Below w4.heap.size w4 w5 := by rw [← hw]; exact hb.trans ((below_box _).mono hb.size)
  have HO := Lib.hid (show (co = 0 ∧ ∃ r' : Nat, po = r' ∧ EForm zo r' jo (eConv zh r1 jh zk r2 jk)) ∨ co = 3 from by
    rcases hm with ⟨h1, r', h2, h3⟩ | ⟨h1, _⟩
    · refine .inl ⟨h1, r', h2, ?_⟩
      unfold eClo at h3
      rw [funext OM.out.2.1] at h3
      have e1 : eC zh r1 jh = oclo (eC zf pf jf) := funext O1.out.2.1
      have e2 : eC zk r2 jk = oclo (eC zg pg jg) := funext O2.out.2.1
      have e3 : oclo (eMin zh r1 jh zk r2 jk) = eConv zh r1 jh zk r2 jk := by
        unfold eConv
        exact clo_min (by rw [e1]; exact clo_sub _) (by rw [e2]; exact clo_sub _) (by rw [e1]; rfl) (by rw [e2]; rfl)
      rwa [e3] at h3
    · exact .inr h1)
  have Zc := Lib.hid (Yc.out.under hz)
  have Xo := Lib.hid (show Cur3 w5 v5.heap.size (.slice ao no capo) (.int .i64 po) (.int .i64 jo) ∧ RowZ w5 ao no capo zo by rw [← hw]; exact ⟨Cur3.new v5 _ _ _ _, hr.alloc _⟩)
  have HB8 := Lib.hid (HB7.out.trans (hz.mono HB7.out.size))
  have HW5 := Lib.hid hw
  clear hb hr hm hx hz hw Ym Yc HB7
  go_upto_region 11 with fail
  try rw [HW5.out]
  clear HW5
  rcases HO.out with ⟨rfl, r', rfl, hf⟩ | rfl
  · have HFO := Lib.hid hf
    clear hf
    obtain ⟨c0, c1, c2, c3, c4, c5⟩ := Xo.out.1
    obtain ⟨d0, d1, d2, d3, d4, d5⟩ := Zc.out.box
    go_wp2_with fail
    clear c0 c1 c2 c3 c4 c5 d0 d1 d2 d3 d4 d5
    refine (same_at HFO.out OC.out _ Xo.out.2 Zc.out.row).mono ?_
    rintro e w6 ⟨rfl, hb⟩
    have HBQ := Lib.hid (HB8.out.trans (hb.mono HB8.out.size))
    clear hb
    go_wp2_with fail
    refine (awake9 _).mono ?_
    rintro e y9 ⟨rfl, hb⟩
    have HBZ := Lib.hid (HBQ.out.trans (hb.mono HBQ.out.size))
    clear hb
    go_wp2_with fail
    go_ret
    exact ⟨rfl, HBZ.out⟩
  · go_wp2_with fail
    refine (awake9 _).mono ?_
    rintro e y9 ⟨rfl, hb⟩
    have HBZ := Lib.hid (HB8.out.trans (hb.mono HB8.out.size))
    clear hb
    go_wp2_with fail
    go_ret
    exact ⟨rfl, HBZ.out⟩

end Go.Proofs.Ytcpfphlijeajiaa
