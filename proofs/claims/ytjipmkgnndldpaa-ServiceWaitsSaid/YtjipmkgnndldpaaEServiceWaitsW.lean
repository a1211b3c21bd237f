/- The walk of ServiceWaits. By the verifier's side. -/
import Derived.Test.YtjipmkgnndldpaaESvP
import Derived.Test.YtjipmkgnndldpaaEBkFSvFSvG
import Derived.Test.YtjipmkgnndldpaaEDevDDevE
import Derived.Test.YtjipmkgnndldpaaEBkG
namespace Go.Proofs.Ytjipmkgnndldpaa
open Go.RowKit
set_option linter.unusedSimpArgs false
set_option linter.unusedVariables false

theorem ceilF_nat {n d : Nat} (h : okB n d = true) : ceilF n d = (upN n d : Nat) := ceilF_up h

set_option maxRecDepth 100000 in
set_option maxHeartbeats 6400000 in
theorem serviceWaits_walk (W : World) (a : Option Addr) (n cap : Nat) (hrow : RowAt W a n cap) :
    Calls Try.prog 6 #[.slice a n cap] W fun e w' => e = .returned (.bool true) ∧ Below W.heap.size W w' := by
  have HR := Lib.hid hrow
  clear hrow
  go_enter Try.func6, Try.ntmps6
  go_wp2_with fail
  refine (new_any a n cap _ HR.out).mono ?_
  rintro e u1 ⟨rfl, hb1, hz1, ra, rn, rc, hs1⟩
  have HB1 := Lib.hid hb1
  have HS1 := Lib.hid hs1
  have Z1 := Lib.hid (show W.heap.size < u1.heap.size by omega)
  have HD := Lib.hid (Held.start hs1)
  clear hb1 hz1 hs1
  go_wp2_with fail
  refine (frac_any 40 3 (by omega) (by omega) (by omega) (by omega) _ ra rn rc _ (HD.out.at HS1.out)).mono ?_
  rintro e u2 ⟨x1, y1, hp, rfl, hs, ha⟩
  obtain ⟨bn, bd, rfl, rfl, f0, f1, f2, f3⟩ := frac_nat hp (by omega) (by omega)
  have Obn := Lib.hid (show okB bn bd = true ∧ bn ≤ 120 ∧ 1 ≤ bd ∧ bd ≤ 3 from ⟨f0, by omega, f2, by omega⟩)
  have HD := Lib.hid (HD.out.call hs ha)
  clear hs ha hp f0 f1 f2 f3
  go_wp2_with fail
  refine (frac_any 4 4 (by omega) (by omega) (by omega) (by omega) _ ra rn rc _ (HD.out.at HS1.out)).mono ?_
  rintro e u3 ⟨x1, y1, hp, rfl, hs, ha⟩
  obtain ⟨an, ad, rfl, rfl, f0, f1, f2, f3⟩ := frac_nat hp (by omega) (by omega)
  have Oan := Lib.hid (show okB an ad = true ∧ an ≤ 16 ∧ 1 ≤ ad ∧ ad ≤ 4 from ⟨f0, by omega, f2, by omega⟩)
  have HD := Lib.hid (HD.out.call hs ha)
  clear hs ha hp f0 f1 f2 f3
  obtain ⟨u4, hw⟩ : ∃ w', u3.alloc (.cells #[.int .i64 bn, .int .i64 bd, .int .i64 an, .int .i64 ad] 46) = w' := ⟨_, rfl⟩
  have hz : Below u3.heap.size u3 u4 := by rw [← hw]; exact below_box _
  have hsA : W.heap.size < u3.heap.size := HD.out.lt
  have NEA := Lib.hid (show u3.heap.size ≠ W.heap.size by omega)
  have XA := Lib.hid (show Bk4 u4 u3.heap.size bn bd an ad by rw [← hw]; exact Bk4.new _ _ _ _ _ _)
  have HD := Lib.hid (HD.out.below hz)
  have HWA := Lib.hid hw
  have SZA := Lib.hid (show u4.heap.size = u3.heap.size + 1 by rw [← hw]; simp)
  clear hw hz hsA
  go_upto_region 3 with fail
  try rw [HWA.out]
  obtain ⟨BA, hB⟩ : ∃ B, u3.heap.size = B := ⟨_, rfl⟩
  try rw [hB] at XA NEA
  try rw [hB]
  clear HWA SZA hB
  go_wp2_with fail
  refine (frac_any 9 3 (by omega) (by omega) (by omega) (by omega) _ ra rn rc _ (HD.out.at HS1.out)).mono ?_
  rintro e u5 ⟨x1, y1, hp, rfl, hs, ha⟩
  obtain ⟨pn, pd, rfl, rfl, f0, f1, f2, f3⟩ := frac_nat hp (by omega) (by omega)
  have Opn := Lib.hid (show okB pn pd = true ∧ pn ≤ 27 ∧ 1 ≤ pd ∧ pd ≤ 3 from ⟨f0, by omega, f2, by omega⟩)
  have HD := Lib.hid (HD.out.call hs ha)
  have XA := Lib.hid (XA.out.apart ha NEA.out)
  clear hs ha hp f0 f1 f2 f3
  go_wp2_with fail
  refine (frac_any 9 4 (by omega) (by omega) (by omega) (by omega) _ ra rn rc _ (HD.out.at HS1.out)).mono ?_
  rintro e u6 ⟨x1, y1, hp, rfl, hs, ha⟩
  obtain ⟨ln, ld, rfl, rfl, f0, f1, f2, f3⟩ := frac_nat hp (by omega) (by omega)
  have Oln := Lib.hid (show okB ln ld = true ∧ ln ≤ 36 ∧ 1 ≤ ld ∧ ld ≤ 4 from ⟨f0, by omega, f2, by omega⟩)
  have HD := Lib.hid (HD.out.call hs ha)
  have XA := Lib.hid (XA.out.apart ha NEA.out)
  clear hs ha hp f0 f1 f2 f3
  obtain ⟨u7, hw⟩ : ∃ w', u6.alloc (.cells #[.int .i64 pn, .int .i64 pd, .int .i64 ln, .int .i64 ld] 25) = w' := ⟨_, rfl⟩
  have hz : Below u6.heap.size u6 u7 := by rw [← hw]; exact below_box _
  have hsB : W.heap.size < u6.heap.size := HD.out.lt
  have NEB := Lib.hid (show u6.heap.size ≠ W.heap.size by omega)
  have XA := Lib.hid (XA.out.below hz)
  have XB := Lib.hid (show Bk4 u7 u6.heap.size pn pd ln ld by rw [← hw]; exact Bk4.new _ _ _ _ _ _)
  have HD := Lib.hid (HD.out.below hz)
  have HWB := Lib.hid hw
  have SZB := Lib.hid (show u7.heap.size = u6.heap.size + 1 by rw [← hw]; simp)
  clear hw hz hsB
  go_upto_region 4 with fail
  try rw [HWB.out]
  obtain ⟨BB, hB⟩ : ∃ B, u6.heap.size = B := ⟨_, rfl⟩
  try rw [hB] at XB NEB
  try rw [hB]
  clear HWB SZB hB
  have HWN := Lib.hid (wait_nat (bn := bn) (bd := bd) (an := an) (ad := ad) (rn := pn) (rd := pd) (ln := ln) (ld := ld) Obn.out.1 Oan.out.1 Opn.out.1 Oln.out.1 (by have := Obn.out; omega) (by have := Obn.out; omega) (by have := Opn.out; omega) (by have := Opn.out; omega) (by have := Oln.out; omega) (by have := Oln.out; omega))
  obtain ⟨cm, hcm⟩ : ∃ c, compareF an ad pn pd = c := ⟨_, rfl⟩
  rw [hcm] at HWN
  have HCM := Lib.hid hcm
  clear hcm
  obtain ⟨x, hx⟩ : ∃ x, waitA bn bd an ad pn pd ln ld = x := ⟨_, rfl⟩
  rw [hx] at HWN
  have HX := Lib.hid hx
  clear hx
  obtain ⟨c0, c1, c2, c3⟩ := XA.out
  obtain ⟨d0, d1, d2, d3⟩ := XB.out
  go_wp2_with fail
  clear c0 c1 c2 c3 d0 d1 d2 d3
  refine (wait_any bn bd an ad pn pd ln ld _).mono ?_
  rw [HX.out]
  rintro e u8 ⟨rfl, hb⟩
  have HD := Lib.hid (HD.out.below hb)
  have XA := Lib.hid (XA.out.below hb)
  have XB := Lib.hid (XB.out.below hb)
  clear hb HX
  rcases HWN.out with ⟨rfl, hno⟩ | ⟨hpn, hcp, zn, zd, rfl, hoz, hzn, hD⟩
  · obtain ⟨u10, hw⟩ : ∃ w', u8.alloc (.cells #[.int .i64 0, .int .i64 0] 23) = w' := ⟨_, rfl⟩
    have hz : Below u8.heap.size u8 u10 := by rw [← hw]; exact below_box _
    have hsQ : W.heap.size < u8.heap.size := HD.out.lt
    have NEQ := Lib.hid (show u8.heap.size ≠ W.heap.size by omega)
    have XA := Lib.hid (XA.out.below hz)
    have XB := Lib.hid (XB.out.below hz)
    have XQ := Lib.hid (show Box u10 u8.heap.size 0 0 by rw [← hw]; exact Box.new _ _ _ _)
    have HD := Lib.hid (HD.out.below hz)
    have HWQ := Lib.hid hw
    have SZQ := Lib.hid (show u10.heap.size = u8.heap.size + 1 by rw [← hw]; simp)
    clear hw hz hsQ
    go_upto_region 6 with fail
    try rw [HWQ.out]
    obtain ⟨BQ, hB⟩ : ∃ B, u8.heap.size = B := ⟨_, rfl⟩
    try rw [hB] at XQ NEQ
    try rw [hB]
    clear HWQ SZQ hB
    clear HWN
    by_cases h0 : pn = 0
    · have h0b : ((pn : Int) == 0) = true := by simpa using h0
      have h0i : (pn : Int) = 0 := by omega
      obtain ⟨c0, c1, c2, c3⟩ := XA.out
      obtain ⟨d0, d1, d2, d3⟩ := XB.out
      clear h0 hno h0i
      go_wp2_with fail
      clear c0 c1 c2 c3 d0 d1 d2 d3
      refine (awake12 _).mono ?_
      rintro e u11 ⟨rfl, hb⟩
      have HD := Lib.hid (HD.out.below hb)
      clear hb
      go_wp2_with fail
      go_ret
      exact ⟨rfl, HB1.out.trans (HD.out.ap.below (Nat.le_refl _) HB1.out.size)⟩
    · have h0b : ((pn : Int) == 0) = false := by simpa using h0
      have h0i : ¬ (pn : Int) = 0 := by omega
      have hc : 0 < cm := by
        rcases hno with h | h
        · exact absurd h h0
        · exact h
      have hcd : decide (0 < cm) = true := decide_eq_true hc
      obtain ⟨c0, c1, c2, c3⟩ := XA.out
      obtain ⟨d0, d1, d2, d3⟩ := XB.out
      clear h0 hno
      go_wp2_with fail
      clear c0 c1 c2 c3 d0 d1 d2 d3
      refine (rcompare_all an ad pn pd _).mono ?_
      rintro e u11 ⟨rfl, hb⟩
      rw [HCM.out]
      have HD := Lib.hid (HD.out.below hb)
      clear hb
      go_wp2_with fail
      refine (awake12 _).mono ?_
      rintro e u12 ⟨rfl, hb⟩
      have HD := Lib.hid (HD.out.below hb)
      clear hb
      go_wp2_with fail
      go_ret
      exact ⟨rfl, HB1.out.trans (HD.out.ap.below (Nat.le_refl _) HB1.out.size)⟩
  · obtain ⟨u9, hw⟩ : ∃ w', u8.alloc (.cells #[.int .i64 zn, .int .i64 zd] 23) = w' := ⟨_, rfl⟩
    have hz : Below u8.heap.size u8 u9 := by rw [← hw]; exact below_box _
    have hsQ : W.heap.size < u8.heap.size := HD.out.lt
    have NEQ := Lib.hid (show u8.heap.size ≠ W.heap.size by omega)
    have XA := Lib.hid (XA.out.below hz)
    have XB := Lib.hid (XB.out.below hz)
    have XQ := Lib.hid (show Box u9 u8.heap.size zn zd by rw [← hw]; exact Box.new _ _ _ _)
    have HD := Lib.hid (HD.out.below hz)
    have HWQ := Lib.hid hw
    have SZQ := Lib.hid (show u9.heap.size = u8.heap.size + 1 by rw [← hw]; simp)
    clear hw hz hsQ
    go_upto_region 7 with fail
    try rw [HWQ.out]
    obtain ⟨BQ, hB⟩ : ∃ B, u8.heap.size = B := ⟨_, rfl⟩
    try rw [hB] at XQ NEQ
    try rw [hB]
    clear HWQ SZQ hB
    have HZ := Lib.hid (And.intro hoz hzn)
    have HDD := Lib.hid (And.intro hcp hD)
    clear HWN hpn hcp hoz hzn hD
    obtain ⟨c0, c1, c2, c3⟩ := XA.out
    go_wp2_with fail
    clear c0 c1 c2 c3
    have hsz : W.heap.size < u9.heap.size := HD.out.lt
    refine (token_ok Obn.out.1 Oan.out.1 (by have := Obn.out; omega) (by have := Oan.out; omega) (by have := Oan.out; omega) _).mono ?_
    rintro e u10 ⟨af, nf, capf, zf, pf, jf, rfl, hb, hr, hf, hx⟩
    have Ff := Lib.hid hf
    have HD := Lib.hid (HD.out.below hb)
    have XA := Lib.hid (XA.out.below hb)
    have XB := Lib.hid (XB.out.below hb)
    have XQ := Lib.hid (XQ.out.below hb)
    clear hb hf
    obtain ⟨u11, hw⟩ : ∃ w', u10.alloc (.cells #[.slice af nf capf, .int .i64 pf, .int .i64 jf] 38) = w' := ⟨_, rfl⟩
    have hz : Below u10.heap.size u10 u11 := by rw [← hw]; exact below_box _
    have hsf : W.heap.size < u10.heap.size := HD.out.lt
    have NEf := Lib.hid (show u10.heap.size ≠ W.heap.size ∧ ∀ y, af = some y → ¬ y.block = W.heap.size from ⟨by omega, fun y hy => by have h1 := hx y hy; have h2 := hsz; omega⟩)
    have XA := Lib.hid (XA.out.below hz)
    have XB := Lib.hid (XB.out.below hz)
    have XQ := Lib.hid (XQ.out.below hz)
    have Xf := Lib.hid (show Bx u11 u10.heap.size af nf capf pf jf zf by rw [← hw]; exact Bx.new hr)
    have HD := Lib.hid (HD.out.below hz)
    have HW := Lib.hid hw
    clear hw hz hsf hr hx hsz
    go_upto_region 8 with fail
    try rw [HW.out]
    obtain ⟨Bf, hB⟩ : ∃ B, u10.heap.size = B := ⟨_, rfl⟩
    rw [hB] at Xf NEf
    try rw [hB]
    clear HW hB
    obtain ⟨c0, c1, c2, c3⟩ := XB.out
    go_wp2_with fail
    clear c0 c1 c2 c3
    have hsz : W.heap.size < u11.heap.size := HD.out.lt
    refine (pace_ok (rn := pn) (rd := pd) (ln := ln) (ld := ld) Opn.out.1 Oln.out.1 (by have := Opn.out; omega) (by have := Opn.out; omega) (by have h1 := Opn.out; have h2 := Oln.out; have := up_small (n := ln) (d := ld) (by omega); omega) _).mono ?_
    rintro e u12 ⟨ag, ng, capg, zg, pg, jg, rfl, hb, hr, hf, hx⟩
    have Fg := Lib.hid hf
    have HD := Lib.hid (HD.out.below hb)
    have XA := Lib.hid (XA.out.below hb)
    have XB := Lib.hid (XB.out.below hb)
    have XQ := Lib.hid (XQ.out.below hb)
    have Xf := Lib.hid (Xf.out.under hb)
    clear hb hf
    obtain ⟨u13, hw⟩ : ∃ w', u12.alloc (.cells #[.slice ag ng capg, .int .i64 pg, .int .i64 jg] 38) = w' := ⟨_, rfl⟩
    have hz : Below u12.heap.size u12 u13 := by rw [← hw]; exact below_box _
    have hsg : W.heap.size < u12.heap.size := HD.out.lt
    have NEg := Lib.hid (show u12.heap.size ≠ W.heap.size ∧ ∀ y, ag = some y → ¬ y.block = W.heap.size from ⟨by omega, fun y hy => by have h1 := hx y hy; have h2 := hsz; omega⟩)
    have XA := Lib.hid (XA.out.below hz)
    have XB := Lib.hid (XB.out.below hz)
    have XQ := Lib.hid (XQ.out.below hz)
    have Xf := Lib.hid (Xf.out.under hz)
    have Xg := Lib.hid (show Bx u13 u12.heap.size ag ng capg pg jg zg by rw [← hw]; exact Bx.new hr)
    have HD := Lib.hid (HD.out.below hz)
    have HW := Lib.hid hw
    clear hw hz hsg hr hx hsz
    go_upto_region 9 with fail
    try rw [HW.out]
    obtain ⟨Bg, hB⟩ : ∃ B, u12.heap.size = B := ⟨_, rfl⟩
    rw [hB] at Xg NEg
    try rw [hB]
    clear HW hB
    obtain ⟨L, ⟨y1, q1, j1, y2, q2, j2, hn1, hn2, hL⟩, hl⟩ := lcm_form Ff.out Fg.out (tok_form Ff.out (by have := Obn.out; omega) (by have := Oan.out; omega)) (pace_form Fg.out (by have := Opn.out; omega) (by have := Oln.out; omega)) (Nat.le_trans (Nat.mul_le_mul (show ad ≤ 4 by have := Oan.out; omega) (show pd ≤ 3 by have := Opn.out; omega)) (by omega))
    have HLL := Lib.hid (And.intro (And.intro hn1 hn2) (And.intro hL hl))
    have HTP := Lib.hid (show ∀ t, ole (tokE bn bd an ad t) (paceE pn pd ln ld (t + upN zn zd)) from fun t => ole_some (by
      have := tok_pace (bn := bn) (bd := bd) (an := an) (ad := ad) (rn := pn) (rd := pd) (ln := ln) (ld := ld) (D := upN zn zd) (by have := Obn.out; omega) (by have := Oan.out; omega) (by have := Opn.out; omega) (by have := Oln.out; omega) HDD.out.1 HDD.out.2 t
      unfold tokF paceF
      omega))
    clear hn1 hn2 hL hl
    obtain ⟨c0, c1, c2, c3, c4, c5⟩ := Xf.out.box
    obtain ⟨d0, d1, d2, d3, d4, d5⟩ := Xg.out.box
    go_wp2_with fail
    clear c0 c1 c2 c3 c4 c5 d0 d1 d2 d3 d4 d5
    refine (delay_ok af nf capf zf pf jf Ff.out.good ag ng capg zg pg jg Fg.out.good HLL.out.1.1 HLL.out.1.2 L HLL.out.2.1 HLL.out.2.2 _ Xf.out.row Xg.out.row).mono ?_
    rintro e u14 ⟨i, m, k, rfl, hb, hdev⟩
    have hdev2 : i = false ∧ m ≤ (upN zn zd : Nat) ∧ 0 ≤ m := by
      rw [show eC zf pf jf = tokE bn bd an ad from funext Ff.out.val, show eC zg pg jg = paceE pn pd ln ld from funext Fg.out.val] at hdev
      have h1 := dev_most hdev HTP.out
      obtain ⟨n, hn, _⟩ := hdev
      exact ⟨h1.1, h1.2, by omega⟩
    obtain ⟨rfl, hm, hm0⟩ := hdev2
    have HD := Lib.hid (HD.out.below hb)
    have XA := Lib.hid (XA.out.below hb)
    have XB := Lib.hid (XB.out.below hb)
    have XQ := Lib.hid (XQ.out.below hb)
    have Xf := Lib.hid (Xf.out.under hb)
    have Xg := Lib.hid (Xg.out.under hb)
    clear hb hdev
    obtain ⟨u15, hw⟩ : ∃ w', u14.alloc (.cells #[.bool false, .int .i64 m, .int .i64 k] 57) = w' := ⟨_, rfl⟩
    have hz : Below u14.heap.size u14 u15 := by rw [← hw]; exact below_box _
    have HD := Lib.hid (HD.out.below hz)
    have XD := Lib.hid (show Cur3 u15 u14.heap.size (.bool false) (.int .i64 m) (.int .i64 k) by rw [← hw]; exact Cur3.new _ _ _ _ _)
    have XA := Lib.hid (XA.out.below hz)
    have XB := Lib.hid (XB.out.below hz)
    have XQ := Lib.hid (XQ.out.below hz)
    have Xf := Lib.hid (Xf.out.under hz)
    have Xg := Lib.hid (Xg.out.under hz)
    have HW := Lib.hid hw
    have hD2 : decide (m ≤ (upN zn zd : Int)) = true := decide_eq_true hm
    obtain ⟨D, hDD⟩ : ∃ D : Int, ((upN zn zd : Nat) : Int) = D := ⟨_, rfl⟩
    rw [hDD] at hm hD2
    have HCE := Lib.hid (show ∀ u, Calls Try.prog 35 #[.agg #[.int .i64 zn, .int .i64 zd]] u (Says (.int .i64 D) u) from fun u => by rw [← hDD, ← ceilF_nat HZ.out.1]; exact rceil_all zn zd u)
    have hDn : ¬ D < m := by omega
    clear hw hz hDD
    go_upto_region 10 with fail
    try rw [HW.out]
    obtain ⟨BD, hB⟩ : ∃ B, u14.heap.size = B := ⟨_, rfl⟩
    rw [hB] at XD
    try rw [hB]
    clear HW hB
    obtain ⟨v0, hv0⟩ : ∃ v, u15.drew = v := ⟨_, rfl⟩
    have KS := Lib.hid (show ∀ u, Cur3 u BD (.bool false) (.int .i64 m) (.int .i64 k) ∧ Box u BQ zn zd → (fun u : World => (u.cell? ⟨BD, 0, none⟩ = some (.bool false) ∧ u.cell? ⟨BD, 1, none⟩ = some (.int .i64 m)) ∧ (u.cell? ⟨BQ, 0, none⟩ = some (.int .i64 zn) ∧ u.cell? ⟨BQ, 1, none⟩ = some (.int .i64 zd))) u from fun u h => ⟨⟨h.1.c0, h.1.c1⟩, h.2.c0, h.2.c1⟩)
    have HD0 := Lib.hid (show Held u1 W.heap.size ra rn rc v0 by rw [← hv0]; exact HD.out.drew)
    have X0 := Lib.hid (show Cur3 v0 BD (.bool false) (.int .i64 m) (.int .i64 k) ∧ Box v0 BQ zn zd by rw [← hv0]; exact ⟨XD.out.drew, XQ.out.below (Below.refl _ _).drew⟩)
    refine wp_region_keeps (fun u : World => (u.cell? ⟨BD, 0, none⟩ = some (.bool false) ∧ u.cell? ⟨BD, 1, none⟩ = some (.int .i64 m)) ∧ (u.cell? ⟨BQ, 0, none⟩ = some (.int .i64 zn) ∧ u.cell? ⟨BQ, 1, none⟩ = some (.int .i64 zd))) 25 1 (by kernel_rfl) (by kernel_rfl) (by rw [hv0]; exact KS.out _ X0.out) (fun hHeld0 => ?_)
    rw [hv0] at hHeld0 ⊢
    clear hv0
    refine wpAnyK_take (i := 0) (v := ?_) rfl (by kernel_rfl) (fun _ _ _ h => h) (Or.inl ⟨by rfl, ?_⟩) (by assumption) ?_
    rotate_left
    · (intro w hSw; (try dsimp only at hSw); go_simp; try with_reducible rfl)
    try simp only [Act.put, List.getElem_toArray, List.getElem_cons_zero, List.getElem_cons_succ, List.setIfInBounds_toArray, List.set_cons_zero, List.set_cons_succ]
    refine wpAnyK_take (i := 1) (v := ?_) rfl (by kernel_rfl) (fun _ _ _ h => h) (Or.inl ⟨by rfl, ?_⟩) (by assumption) ?_
    rotate_left
    · (intro w hSw; (try dsimp only at hSw); go_simp; try with_reducible rfl)
    try simp only [Act.put, List.getElem_toArray, List.getElem_cons_zero, List.getElem_cons_succ, List.setIfInBounds_toArray, List.set_cons_zero, List.set_cons_succ]
    refine wpAnyK_take (i := 2) (v := ?_) rfl (by kernel_rfl) (fun _ _ _ h => h) (Or.inl ⟨by rfl, ?_⟩) (by assumption) ?_
    rotate_left
    · (intro w hSw; (try dsimp only at hSw); go_simp; try with_reducible rfl)
    try simp only [Act.put, List.getElem_toArray, List.getElem_cons_zero, List.getElem_cons_succ, List.setIfInBounds_toArray, List.set_cons_zero, List.set_cons_succ]
    refine wpAnyK_take (i := 3) (v := ?_) rfl (by kernel_rfl) (fun _ _ _ h => h) (Or.inl ⟨by rfl, ?_⟩) (by assumption) ?_
    rotate_left
    · (intro w hSw; (try dsimp only at hSw); go_simp; try with_reducible rfl)
    try simp only [Act.put, List.getElem_toArray, List.getElem_cons_zero, List.getElem_cons_succ, List.setIfInBounds_toArray, List.set_cons_zero, List.set_cons_succ]
    refine wpAnyK_take (i := 4) (v := ?_) rfl (by kernel_rfl) (fun _ _ _ h => h) (Or.inl ⟨by rfl, ?_⟩) (by assumption) ?_
    rotate_left
    · (intro w hSw; (try dsimp only at hSw); go_simp; try with_reducible rfl)
    try simp only [Act.put, List.getElem_toArray, List.getElem_cons_zero, List.getElem_cons_succ, List.setIfInBounds_toArray, List.set_cons_zero, List.set_cons_succ]
    refine wpAnyK_take (i := 5) (v := ?_) rfl (by kernel_rfl) (fun _ _ _ h => h) (Or.inl ⟨by rfl, ?_⟩) (by assumption) ?_
    rotate_left
    · (intro w hSw; (try dsimp only at hSw); go_simp; try with_reducible rfl)
    try simp only [Act.put, List.getElem_toArray, List.getElem_cons_zero, List.getElem_cons_succ, List.setIfInBounds_toArray, List.set_cons_zero, List.set_cons_succ]
    refine wpAnyK_take (i := 6) (v := ?_) rfl (by kernel_rfl) (fun _ _ _ h => h) (Or.inl ⟨by rfl, ?_⟩) (by assumption) ?_
    rotate_left
    · (intro w hSw; (try dsimp only at hSw); go_simp; try with_reducible rfl)
    try simp only [Act.put, List.getElem_toArray, List.getElem_cons_zero, List.getElem_cons_succ, List.setIfInBounds_toArray, List.set_cons_zero, List.set_cons_succ]
    refine wpAnyK_take (i := 7) (v := ?_) rfl (by kernel_rfl) (fun _ _ _ h => h) (Or.inl ⟨by rfl, ?_⟩) (by assumption) ?_
    rotate_left
    · (intro w hSw; (try dsimp only at hSw); go_simp; try with_reducible rfl)
    try simp only [Act.put, List.getElem_toArray, List.getElem_cons_zero, List.getElem_cons_succ, List.setIfInBounds_toArray, List.set_cons_zero, List.set_cons_succ]
    refine wpAnyK_take (i := 8) (v := ?_) rfl (by kernel_rfl) (fun _ _ _ h => h) (Or.inl ⟨by rfl, ?_⟩) (by assumption) ?_
    rotate_left
    · (intro w hSw; (try dsimp only at hSw); go_simp; try with_reducible rfl)
    try simp only [Act.put, List.getElem_toArray, List.getElem_cons_zero, List.getElem_cons_succ, List.setIfInBounds_toArray, List.set_cons_zero, List.set_cons_succ]
    refine wpAnyK_take (i := 9) (v := ?_) rfl (by kernel_rfl) (fun _ _ _ h => h) (Or.inl ⟨by rfl, ?_⟩) (by assumption) ?_
    rotate_left
    · (intro w hSw; (try dsimp only at hSw); go_simp; try with_reducible rfl)
    try simp only [Act.put, List.getElem_toArray, List.getElem_cons_zero, List.getElem_cons_succ, List.setIfInBounds_toArray, List.set_cons_zero, List.set_cons_succ]
    refine wpAnyK_take (i := 10) (v := ?_) rfl (by kernel_rfl) (fun _ _ _ h => h) (Or.inl ⟨by rfl, ?_⟩) (by assumption) ?_
    rotate_left
    · (intro w hSw; (try dsimp only at hSw); go_simp; try with_reducible rfl)
    try simp only [Act.put, List.getElem_toArray, List.getElem_cons_zero, List.getElem_cons_succ, List.setIfInBounds_toArray, List.set_cons_zero, List.set_cons_succ]
    refine wpAnyK_take (i := 11) (v := ?_) rfl (by kernel_rfl) (fun _ _ _ h => h) (Or.inl ⟨by rfl, ?_⟩) (by assumption) ?_
    rotate_left
    · (intro w hSw; (try dsimp only at hSw); go_simp; try with_reducible rfl)
    try simp only [Act.put, List.getElem_toArray, List.getElem_cons_zero, List.getElem_cons_succ, List.setIfInBounds_toArray, List.set_cons_zero, List.set_cons_succ]
    refine wpAnyK_take (i := 12) (v := ?_) rfl (by kernel_rfl) (fun _ _ _ h => h) (Or.inl ⟨by rfl, ?_⟩) (by assumption) ?_
    rotate_left
    · (intro w hSw; (try dsimp only at hSw); go_simp; try with_reducible rfl)
    try simp only [Act.put, List.getElem_toArray, List.getElem_cons_zero, List.getElem_cons_succ, List.setIfInBounds_toArray, List.set_cons_zero, List.set_cons_succ]
    refine wpAnyK_take (i := 13) (v := ?_) rfl (by kernel_rfl) (fun _ _ _ h => h) (Or.inl ⟨by rfl, ?_⟩) (by assumption) ?_
    rotate_left
    · (intro w hSw; (try dsimp only at hSw); go_simp; try with_reducible rfl)
    try simp only [Act.put, List.getElem_toArray, List.getElem_cons_zero, List.getElem_cons_succ, List.setIfInBounds_toArray, List.set_cons_zero, List.set_cons_succ]
    refine wpAnyK_take (i := 14) (v := ?_) rfl (by kernel_rfl) (fun _ _ _ h => h) (Or.inl ⟨by rfl, ?_⟩) (by assumption) ?_
    rotate_left
    · (intro w hSw; (try dsimp only at hSw); go_simp; try with_reducible rfl)
    try simp only [Act.put, List.getElem_toArray, List.getElem_cons_zero, List.getElem_cons_succ, List.setIfInBounds_toArray, List.set_cons_zero, List.set_cons_succ]
    refine wpAnyK_take (i := 15) (v := ?_) rfl (by kernel_rfl) (fun _ _ _ h => h) (Or.inl ⟨by rfl, ?_⟩) (by assumption) ?_
    rotate_left
    · (intro w hSw; (try dsimp only at hSw); go_simp; try with_reducible rfl)
    try simp only [Act.put, List.getElem_toArray, List.getElem_cons_zero, List.getElem_cons_succ, List.setIfInBounds_toArray, List.set_cons_zero, List.set_cons_succ]
    refine wpAnyK_take (i := 16) (v := ?_) rfl (by kernel_rfl) (fun _ _ _ h => h) (Or.inl ⟨by rfl, ?_⟩) (by assumption) ?_
    rotate_left
    · (intro w hSw; (try dsimp only at hSw); go_simp; try with_reducible rfl)
    try simp only [Act.put, List.getElem_toArray, List.getElem_cons_zero, List.getElem_cons_succ, List.setIfInBounds_toArray, List.set_cons_zero, List.set_cons_succ]
    refine wpAnyK_take (i := 17) (v := ?_) rfl (by kernel_rfl) (fun _ _ _ h => h) (Or.inl ⟨by rfl, ?_⟩) (by assumption) ?_
    rotate_left
    · (intro w hSw; (try dsimp only at hSw); go_simp; try with_reducible rfl)
    try simp only [Act.put, List.getElem_toArray, List.getElem_cons_zero, List.getElem_cons_succ, List.setIfInBounds_toArray, List.set_cons_zero, List.set_cons_succ]
    refine wpAnyK_take (i := 18) (v := ?_) rfl (by kernel_rfl) (fun _ _ _ h => h) (Or.inl ⟨by rfl, ?_⟩) (by assumption) ?_
    rotate_left
    · (intro w hSw; (try dsimp only at hSw); go_simp; try with_reducible rfl)
    try simp only [Act.put, List.getElem_toArray, List.getElem_cons_zero, List.getElem_cons_succ, List.setIfInBounds_toArray, List.set_cons_zero, List.set_cons_succ]
    refine wpAnyK_step (i := 19) rfl (by kernel_rfl) (fun K hK => ?_)
    go_simp
    with_reducible refine (HCE.out _).mono ?_
    rintro e x1 ⟨rfl, hb⟩
    have X1 := Lib.hid (And.intro (X0.out.1.below hb) (X0.out.2.below hb))
    have HD1 := Lib.hid (HD0.out.below hb)
    clear hb
    refine hK.out _ _ (KS.out _ X1.out) (fun hHeld1 => ?_)
    clear hK K hHeld0
    try simp only [Act.put, List.getElem_toArray, List.getElem_cons_zero, List.getElem_cons_succ, List.setIfInBounds_toArray, List.set_cons_zero, List.set_cons_succ]
    refine wpAnyK_take (i := 20) (v := ?_) rfl (by kernel_rfl) (fun _ _ _ h => h) (Or.inl ⟨by rfl, ?_⟩) (by assumption) ?_
    rotate_left
    · (intro w hSw; (try dsimp only at hSw); go_simp; try with_reducible rfl)
    try simp only [Act.put, List.getElem_toArray, List.getElem_cons_zero, List.getElem_cons_succ, List.setIfInBounds_toArray, List.set_cons_zero, List.set_cons_succ]
    refine wpAnyK_take (i := 21) (v := ?_) rfl (by kernel_rfl) (fun _ _ _ h => h) (Or.inl ⟨by rfl, ?_⟩) (by assumption) ?_
    rotate_left
    · (intro w hSw; (try dsimp only at hSw); go_simp; try with_reducible rfl)
    try simp only [Act.put, List.getElem_toArray, List.getElem_cons_zero, List.getElem_cons_succ, List.setIfInBounds_toArray, List.set_cons_zero, List.set_cons_succ]
    refine wpAnyK_take (i := 22) (v := ?_) rfl (by kernel_rfl) (fun _ _ _ h => h) (Or.inl ⟨by rfl, ?_⟩) (by assumption) ?_
    rotate_left
    · (intro w hSw; (try dsimp only at hSw); go_simp; try with_reducible rfl)
    try simp only [Act.put, List.getElem_toArray, List.getElem_cons_zero, List.getElem_cons_succ, List.setIfInBounds_toArray, List.set_cons_zero, List.set_cons_succ]
    refine wpAnyK_step (i := 23) rfl (by kernel_rfl) (fun K hK => ?_)
    go_simp
    with_reducible refine (awake12 _).mono ?_
    rintro e x2 ⟨rfl, hb⟩
    have X2 := Lib.hid (And.intro (X1.out.1.below hb) (X1.out.2.below hb))
    have HD2 := Lib.hid (HD1.out.below hb)
    clear hb
    refine hK.out _ _ (KS.out _ X2.out) (fun hHeld2 => ?_)
    clear hK K hHeld1
    try simp only [Act.put, List.getElem_toArray, List.getElem_cons_zero, List.getElem_cons_succ, List.setIfInBounds_toArray, List.set_cons_zero, List.set_cons_succ]
    refine wpAnyK_take (i := 24) (v := ?_) rfl (by kernel_rfl) (fun _ _ _ h => h) (Or.inl ⟨by rfl, ?_⟩) (by assumption) ?_
    rotate_left
    · (intro w hSw; (try dsimp only at hSw); go_simp; try with_reducible rfl)
    try simp only [Act.put, List.getElem_toArray, List.getElem_cons_zero, List.getElem_cons_succ, List.setIfInBounds_toArray, List.set_cons_zero, List.set_cons_succ]
    refine wpAnyK_done (by kernel_rfl) ?_
    simp only [List.drop_succ_cons, List.drop_zero]
    clear hHeld2
    go_wp2_with fail
    go_ret
    exact ⟨rfl, HB1.out.trans (HD2.out.ap.below (Nat.le_refl _) HB1.out.size)⟩

end Go.Proofs.Ytjipmkgnndldpaa
