/- The walk of ServiceMakes. By the verifier's side. -/
import Derived.Test.YtjipmkgnndldpaaESvYSvZ
namespace Go.Proofs.Ytjipmkgnndldpaa
open Go.RowKit
set_option linter.unusedSimpArgs false
set_option linter.unusedVariables false

set_option maxRecDepth 100000 in
set_option maxHeartbeats 6400000 in
theorem serviceMakes_walk (W : World) (pn pd ln ld : Int) (A9 : Option Addr) (n9 c9 : Nat) (hls : n9 ≤ 30 → ∀ b, W.heap.size ≤ b → IsB b W A9 n9 c9) (a : Option Addr) (n cap : Nat) (hrow : RowAt W a n cap) :
    Calls Try.prog 3 #[bucketV pn pd ln ld, .slice A9 n9 c9, .slice a n cap] W fun e w' => e = .returned (.bool true) ∧ Below W.heap.size W w' := by
  have hmk := make_rowPc
  obtain ⟨W0, hw⟩ : ∃ w', W.alloc (.cells #[.int .i64 pn, .int .i64 pd, .int .i64 ln, .int .i64 ld] 25) = w' := ⟨_, rfl⟩
  have hz : Below W.heap.size W W0 := by rw [← hw]; exact below_box _
  have X0 := Lib.hid (show Bk4 W0 W.heap.size pn pd ln ld by rw [← hw]; exact Bk4.new _ _ _ _ _ _)
  have HR := Lib.hid (hrow.under hz)
  have HLS := Lib.hid (show n9 ≤ 30 → IsB W0.heap.size W0 A9 n9 c9 from fun h => (hls h _ hz.size).under hz)
  have HB0 := Lib.hid hz
  have HMK := Lib.hid hmk
  have HW := Lib.hid hw
  clear hrow hz hw hls hmk
  go_enter Try.func3, Try.ntmps3
  go_upto_region 1 with fail
  rw [HW.out]
  clear HW
  by_cases h5 : 30 < n9
  · have h5i : (30 : Int) < (n9 : Int) := by omega
    go_wp2_with fail
    refine (awake12 _).mono ?_
    rintro e z2 ⟨rfl, hb⟩
    have HBZ := Lib.hid (HB0.out.trans (hb.mono HB0.out.size))
    clear hb
    go_wp2_with fail
    go_ret
    exact ⟨rfl, HBZ.out⟩
  have h5i : ¬ (30 : Int) < (n9 : Int) := by omega
  have L0 := Lib.hid (HLS.out (by omega))
  clear HLS
  go_wp2_with fail
  refine (new_any a n cap _ HR.out).mono ?_
  rintro e u1 ⟨rfl, hb1, hz1', ra, rn, rc, hs1⟩
  have hlW : W.heap.size < W0.heap.size := X0.out.lt
  have hneP : W.heap.size ≠ W0.heap.size := by omega
  have X1 := Lib.hid (X0.out.below hb1)
  have L1 := Lib.hid (L0.out.under hb1)
  have HB1 := Lib.hid (HB0.out.trans (hb1.mono HB0.out.size))
  have HS1 := Lib.hid hs1
  have HD := Lib.hid (Held.start hs1)
  clear hb1 hz1' hs1 X0 HB0 L0 HR
  go_wp2_with fail
  refine (frac_any 3 2 (by omega) (by omega) (by omega) (by omega) W0.heap.size ra rn rc _ HS1.out).mono ?_
  rintro e u4 ⟨x7, y7, hp, rfl, hs, he⟩
  have HD4 := Lib.hid (HD.out.call hs he)
  clear hs he hp HD
  go_wp2_with fail
  refine (n_any 4 (by omega) (by omega) W0.heap.size ra rn rc _ (HD4.out.at HS1.out)).mono ?_
  rintro e u5 ⟨r, ⟨r0, r1⟩, rfl, hs, he⟩
  have HD5 := Lib.hid (HD4.out.call hs he.apart)
  clear hs he HD4
  obtain ⟨g, hg⟩ : ∃ g : Int, 398 + r = g := ⟨_, rfl⟩
  have hg0 : 398 ≤ g ∧ g ≤ 402 := by omega
  have hgw : IntKind.i64.wrap g = g := IntWalk.i64_in _ ⟨by omega, by omega⟩
  obtain ⟨w6, hw⟩ : ∃ w', u5.alloc (.cells #[.int .i64 x7, .int .i64 y7, .int .i64 g, .int .i64 1] 25) = w' := ⟨_, rfl⟩
  have hz : Below u5.heap.size u5 w6 := by rw [← hw]; exact below_box _
  have HD6 := Lib.hid (HD5.out.below hz)
  have XC6 := Lib.hid (show Pq4 w6 u5.heap.size x7 y7 g 1 by rw [← hw]; exact Pq4.new _ _ _ _ _ _)
  have hCb : u5.heap.size ≠ W0.heap.size := by have := HD5.out.lt; omega
  have hCg : u1.heap.size ≤ u5.heap.size := HD5.out.ap.size
  have HW := Lib.hid hw
  clear hw hz HD5
  go_upto_region 5 with fail
  try rw [HW.out]
  obtain ⟨C, hC⟩ : ∃ B, u5.heap.size = B := ⟨_, rfl⟩
  rw [hC] at XC6 hCb hCg
  try rw [hC]
  clear HW hC hgw hg
  go_wp2_with fail
  refine (n_any 2 (by omega) (by omega) W0.heap.size ra rn rc _ (HD6.out.at HS1.out)).mono ?_
  rintro e u7 ⟨r2, ⟨s0, s1⟩, rfl, hs, he⟩
  have HD7 := Lib.hid (HD6.out.call hs he.apart)
  have XC7 := Lib.hid (XC6.out.apart he.apart hCb)
  clear hs he HD6 XC6
  go_upto_if 38 with (fail)
  go_cut [] (fun wx => ∃ l m : Int, Hid (Pq4 wx C x7 y7 l m) ∧ Hid (Held u1 W0.heap.size ra rn rc wx))
  case first =>
    by_cases t0 : r2 = 0
    · subst t0
      obtain ⟨c0, c1, c2, c3, f0, f1, f2, f3⟩ := XC7.out
      have hm1 : IntKind.i64.wrap (2 * g) = 2 * g := IntWalk.i64_in _ ⟨by omega, by omega⟩
      have hm2 : IntKind.i64.wrap (2 * g - 1) = 2 * g - 1 := IntWalk.i64_in _ ⟨by omega, by omega⟩
      go_wp2_with fail
      clear c0 c1 c2 c3 f0 f1 f2 f3 hm1 hm2
      refine (rnew_all _ _ ⟨by omega, by omega⟩ ⟨by omega, by omega⟩ _).mono ?_
      rintro e u8 ⟨rfl, hb⟩
      have HD8 := Lib.hid (HD7.out.below hb)
      have XC8 := Lib.hid (XC7.out.below hb)
      have HS1Z := HS1.out.lt
      clear hb
      obtain ⟨c0, c1, c2, c3, f0, f1, f2, f3⟩ := XC8.out
      go_wp2_with fail
      go_meet
      exact ⟨_, _, XC8.out.set23 _ _, (HD8.out.set HS1Z hCg _).set HS1Z hCg _⟩
    · have tb : (r2 == 0) = false := by simpa using t0
      go_wp2_with fail
      go_meet
      exact ⟨_, _, XC7.out, HD7.out⟩
  case rest =>
  obtain ⟨l9, m9, XC9, HD9⟩ := hcut
  obtain ⟨w9, rfl⟩ : ∃ u : World, u = wc := ⟨_, rfl⟩
  have X9 := Lib.hid (X1.out.apart HD9.out.ap hneP)
  have L9 := Lib.hid (L1.out.apart HD9.out.ap)
  have HS9 := Lib.hid (HD9.out.at HS1.out)
  have HB9 := Lib.hid (show Below W.heap.size W w9 from HB1.out.trans (HD9.out.ap.below (by omega) (by have := HB1.out.size; omega)))
  have XC9b := Lib.hid XC9.out.bk
  clear HD7 XC7 X1 L1 HB1 HS1 HD9 hCg hg0 s0 s1 XC9
  go_upto_region 7 with fail
  have HK := Lib.hid (fun u (h : Held w9 W0.heap.size ra rn rc u) => sc2_mk X9.out hneP XC9b.out hCb h)
  have HK0 := Lib.hid (HK.out _ (Held.start HS9.out).drew)
  go_cut [61, 62, 63] (fun s61 s62 s63 wx => ∃ (T : Nat) (bs : List Bkt), s61 = .slice (some ⟨T, 0, none⟩) 4 4 ∧ s62 = .int .i64 4 ∧ s63 = .int .i64 0 ∧ ¬ T = W0.heap.size ∧ bs.length = 4 ∧ Hid (RowB wx T 0 bs) ∧ Hid (Held w9 W0.heap.size ra rn rc wx))
  case first =>
    go_region_held3 (fun u => u.cell? ⟨W.heap.size, 0, none⟩ = some (.int .i64 pn) ∧ u.cell? ⟨W.heap.size, 1, none⟩ = some (.int .i64 pd) ∧ u.cell? ⟨W.heap.size, 2, none⟩ = some (.int .i64 ln) ∧ u.cell? ⟨W.heap.size, 3, none⟩ = some (.int .i64 ld) ∧ u.cell? ⟨C, 0, none⟩ = some (.int .i64 x7) ∧ u.cell? ⟨C, 1, none⟩ = some (.int .i64 y7) ∧ u.cell? ⟨C, 2, none⟩ = some (.int .i64 l9) ∧ u.cell? ⟨C, 3, none⟩ = some (.int .i64 m9) ∧ Hid (Held w9 W0.heap.size ra rn rc u))
      (first | with_reducible exact HK0.out | with_reducible exact HK.out _ ((sc2_of (by assumption)).call hs12 he12) | with_reducible exact HK.out _ ((sc2_of (by assumption)).call hs11 he11) | with_reducible exact HK.out _ ((sc2_of (by assumption)).call hs10 he10) | with_reducible exact HK.out _ ((sc2_of (by assumption)).call hs9 he9) | with_reducible exact HK.out _ ((sc2_of (by assumption)).alloc _) | with_reducible exact HK.out _ ((sc2_of (by assumption)).alloc _).drew | with_reducible exact HK.out _ (sc2_of (by assumption)).drew)
      (first | (go_at_call 17; have HQ12 := hs11; (with_reducible refine (frac_any 20 5 (by omega) (by omega) (by omega) (by omega) W0.heap.size ra rn rc _ ((sc2_of (by assumption)).at HS9.out)).mono ?_); rintro e w12' ⟨x12, y12, hp12, rfl, hs12, he12⟩; have HK12 := Lib.hid ((sc2_of (by assumption)).call hs12 he12)) | (go_at_call 17; have HQ11 := hs10; (with_reducible refine (frac_any 9 5 (by omega) (by omega) (by omega) (by omega) W0.heap.size ra rn rc _ ((sc2_of (by assumption)).at HS9.out)).mono ?_); rintro e w11' ⟨x11, y11, hp11, rfl, hs11, he11⟩; have HK11 := Lib.hid ((sc2_of (by assumption)).call hs11 he11)) | (go_at_call 20; have HQ10 := hs9; (with_reducible refine (lratio12_any W0.heap.size ra rn rc _ ((sc2_of (by assumption)).at HS9.out)).mono ?_); rintro e w10' ⟨x10, y10, hp10, rfl, hs10, he10⟩; have HK10 := Lib.hid ((sc2_of (by assumption)).call hs10 he10)) | (go_at_call 20; (with_reducible refine (lratio12_any W0.heap.size ra rn rc _ ((sc2_of (by assumption)).at HS9.out)).mono ?_); rintro e w9' ⟨x9, y9, hp9, rfl, hs9, he9⟩; have HK9 := Lib.hid ((sc2_of (by assumption)).call hs9 he9)))
    go_wp2_with fail
    go_meet
    have hH := HK12.out
    exact ⟨w12'.heap.size, [⟨pn, pd, ln, ld⟩, ⟨x7, y7, l9, m9⟩, ⟨x9, y9, x10, y10⟩, ⟨x11, y11, x12, y12⟩], rfl, rfl, rfl, by have := hH.lt; omega, rfl, svrow_four w12' ⟨pn, pd, ln, ld⟩ ⟨x7, y7, l9, m9⟩ ⟨x9, y9, x10, y10⟩ ⟨x11, y11, x12, y12⟩ _, hH.alloc _⟩
  case rest =>
  obtain ⟨T, bs, rfl, rfl, rfl, hTb, hbl, HT8, HD8⟩ := hcut
  obtain ⟨w8, rfl⟩ : ∃ u : World, u = wc := ⟨_, rfl⟩
  clear HK HK0 XC9b hCb
  go_wp2_with fail
  go_loopw [63] (fun s wx => ∃ q : Nat, s = .int .i64 q ∧ q ≤ 4 ∧ Hid (Held w9 W0.heap.size ra rn rc wx) ∧ Hid (RowB wx T 0 bs)) (fun s _ => 4 - (intOf s).toNat)
  case atStart => exact ⟨0, by go_num, by omega, HD8, HT8⟩
  case round =>
  obtain ⟨q, rfl, hq, HDq, HTq⟩ := hrel
  obtain ⟨wq, rfl⟩ : ∃ u : World, u = wr := ⟨_, rfl⟩
  clear HD8 HT8
  by_cases hq3 : q < 4
  · have hqi : (q : Int) < 4 := by omega
    obtain ⟨c, hc⟩ : ∃ c, bs[q]? = some c := ⟨_, List.getElem?_eq_getElem (by omega)⟩
    obtain ⟨l0, l1, l2, l3⟩ := HTq.out.at0 hc
    obtain ⟨r, hr⟩ : ∃ r : Rs, PaceIs c.bn c.bd c.rn c.rd r.zs r.p r.inc r.c := by
      obtain ⟨zs, p, inc, ec, h⟩ := paceIs_ex c.bn c.bd c.rn c.rd
      exact ⟨⟨zs, p, inc, ec⟩, h⟩
    have HTK := Lib.hid hr
    clear hr hc
    obtain ⟨wb, hw⟩ : ∃ w', wq.alloc (.cells #[.int .i64 c.bn, .int .i64 c.bd, .int .i64 c.rn, .int .i64 c.rd] 25) = w' := ⟨_, rfl⟩
    have hz : Below wq.heap.size wq wb := by rw [← hw]; exact below_box _
    have XE := Lib.hid (show Bk4 wb wq.heap.size c.bn c.bd c.rn c.rd by rw [← hw]; exact Bk4.new _ _ _ _ _ _)
    have HB8 := Lib.hid hz
    have HW := Lib.hid hw
    clear hw hz
    go_upto_region 10 with fail
    try rw [HW.out]
    obtain ⟨EE, hE⟩ : ∃ B, wq.heap.size = B := ⟨_, rfl⟩
    rw [hE] at XE
    try rw [hE]
    clear HW hE l0 l1 l2 l3
    obtain ⟨d0, d1, d2, d3⟩ := XE.out
    go_wp2_with fail
    clear d0 d1 d2 d3
    refine (pace_ce HTK.out _).mono ?_
    rintro e y1 ⟨a1, n1, k1, rfl, hb, hr, hx⟩
    obtain ⟨v1, hw⟩ : ∃ w', y1.alloc (.cells #[.slice a1 n1 k1, .int .i64 r.p, .int .i64 r.inc] 38) = w' := ⟨_, rfl⟩
    have hz : Below wb.heap.size wb v1 := by rw [← hw]; exact hb.trans ((below_box _).mono hb.size)
    have HB8 := Lib.hid (HB8.out.trans (hz.mono HB8.out.size))
    have XV1 := Lib.hid (show Cur3 v1 y1.heap.size (.slice a1 n1 k1) (.int .i64 r.p) (.int .i64 r.inc) by rw [← hw]; exact Cur3.new _ _ _ _ _)
    have RV1 := Lib.hid (show RowZ v1 a1 n1 k1 r.zs by rw [← hw]; exact hr.under (below_box _))
    have XE := Lib.hid (XE.out.below hz)
    have HW := Lib.hid hw
    clear hw hz hb hr hx
    go_upto_region 11 with fail
    try rw [HW.out]
    obtain ⟨F1, hE⟩ : ∃ B, y1.heap.size = B := ⟨_, rfl⟩
    rw [hE] at XV1
    try rw [hE]
    clear HW hE
    obtain ⟨d0, d1, d2, d3⟩ := XE.out
    go_wp2_with fail
    clear d0 d1 d2 d3
    refine (rpace_ce HTK.out _).mono ?_
    rintro e y2 ⟨a2, n2, k2, rfl, hb, hr, hx⟩
    obtain ⟨v2, hw⟩ : ∃ w', y2.alloc (.cells #[.slice a2 n2 k2, .int .i64 r.p, .int .i64 r.inc] 38) = w' := ⟨_, rfl⟩
    have hz : Below v1.heap.size v1 v2 := by rw [← hw]; exact hb.trans ((below_box _).mono hb.size)
    have HB8 := Lib.hid (HB8.out.trans (hz.mono HB8.out.size))
    have XV2 := Lib.hid (show Cur3 v2 y2.heap.size (.slice a2 n2 k2) (.int .i64 r.p) (.int .i64 r.inc) by rw [← hw]; exact Cur3.new _ _ _ _ _)
    have RV2 := Lib.hid (show RowZ v2 a2 n2 k2 r.zs by rw [← hw]; exact hr.under (below_box _))
    have XV1 := Lib.hid (XV1.out.below hz)
    have RV1 := Lib.hid (RV1.out.under hz)
    have HW := Lib.hid hw
    clear hw hz hb hr hx
    go_upto_region 12 with fail
    try rw [HW.out]
    obtain ⟨F2, hE⟩ : ∃ B, y2.heap.size = B := ⟨_, rfl⟩
    rw [hE] at XV2
    try rw [hE]
    clear HW hE
    obtain ⟨d0, d1, d2, d3, d4, d5⟩ := XV1.out
    obtain ⟨e0, e1, e2, e3, e4, e5⟩ := XV2.out
    go_wp2_with fail
    clear d0 d1 d2 d3 d4 d5 e0 e1 e2 e3 e4 e5
    refine (rsame_any a1 n1 k1 r.zs r.p r.inc a2 n2 k2 r.zs r.p r.inc true (sameB_me _ _ _) _ RV1.out RV2.out).mono ?_
    rintro e y3 ⟨rfl, hb⟩
    have HB8 := Lib.hid (HB8.out.trans (hb.mono HB8.out.size))
    clear hb
    go_wp2_with fail
    go_roundw
    case rel => exact ⟨q + 1, by go_num, by omega, HDq.out.below HB8.out, HTq.out.under HB8.out⟩
    case measure => simp [intOf]; omega
  have hqi : ¬ (q : Int) < 4 := by omega
  clear HTq
  go_wp2_with fail
  refine (n_any 2 (by omega) (by omega) _ ra rn rc _ (HDq.out.at HS9.out)).mono ?_
  rintro e u15 ⟨r3, ⟨s0, s1⟩, rfl, hs, he⟩
  obtain ⟨m, hm⟩ : ∃ m : Nat, 20 + r3 = (m : Int) := ⟨(20 + r3).toNat, by omega⟩
  have hmb : m ≤ 21 ∧ 20 ≤ m := by omega
  have hmw : IntKind.i64.wrap (m : Int) = (m : Int) := IntWalk.i64_in _ ⟨by omega, by omega⟩
  have hmkm := HMK.out m (by omega)
  have HD15 := Lib.hid (HDq.out.call hs he.apart)
  clear hs he HDq
  obtain ⟨w16, hw⟩ : ∃ w', u15.alloc (.cells (madeCells #[.int .i64 0, .int .i64 0, .int .i64 0, .int .i64 0] (m * 4)) 25) = w' := ⟨_, rfl⟩
  have hz : Below u15.heap.size u15 w16 := by rw [← hw]; exact below_box _
  have LM := Lib.hid (show LstB u15.heap.size m w16 by rw [← hw]; exact LstB.make u15 m _)
  have HD16 := Lib.hid (HD15.out.below hz)
  have HGE := Lib.hid (show w9.heap.size ≤ u15.heap.size from HD15.out.ap.size)
  have hGb : u15.heap.size ≠ W0.heap.size := by have := HD15.out.lt; omega
  have HW := Lib.hid hw
  clear hw hz HD15
  go_upto_region 16 with fail
  try rw [HW.out]
  obtain ⟨G, hG⟩ : ∃ B, u15.heap.size = B := ⟨_, rfl⟩
  rw [hG] at LM HGE hGb
  try rw [hG]
  clear HW hG hmkm hmw hm s0 s1
  go_wp2_with fail
  go_loopw [93] (fun s wx => ∃ j : Nat, s = .int .i64 j ∧ j ≤ m ∧ Hid (Held w9 W0.heap.size ra rn rc wx) ∧ Hid (LstB G m wx)) (fun s _ => m - (intOf s).toNat)
  case atStart => exact ⟨0, by go_num, by omega, HD16, LM⟩
  case round =>
  obtain ⟨j, rfl, hj, HDj, HLj⟩ := hrel
  obtain ⟨wj, rfl⟩ : ∃ u : World, u = wr := ⟨_, rfl⟩
  clear HD16 LM
  by_cases hj3 : j < m
  · have HD3 := HDj.out
    have hji : (j : Int) < (m : Int) := by omega
    obtain ⟨z0, z1, z2, z3, c0, c1, c2, c3, f0, f1, f2, f3⟩ := HLj.out.four hj3
    have hw1 : IntKind.i64.wrap (1 + (j : Int)) = 1 + (j : Int) := IntWalk.i64_in _ ⟨by omega, by omega⟩
    have hw2 : IntKind.i64.wrap (2 * (j : Int)) = 2 * (j : Int) := IntWalk.i64_in _ ⟨by omega, by omega⟩
    have HS9Z := HS9.out.lt
    go_wp2_with fail
    go_roundw
    case rel => exact ⟨j + 1, by go_num, by omega, (((HD3.set HS9Z HGE.out _).set HS9Z HGE.out _).set HS9Z HGE.out _).set HS9Z HGE.out _, (((HLj.out.set (by omega) trivial).set (by omega) trivial).set (by omega) trivial).set (by omega) trivial⟩
    case measure => simp [intOf]; omega
  have hji : ¬ (j : Int) < (m : Int) := by omega
  obtain ⟨bs2, hl2, hr2⟩ := HLj.out.list
  have LB := Lib.hid (show IsB W0.heap.size wj (some ⟨G, 0, none⟩) m m from IsB.block hr2 hGb hl2 (by omega) (by omega))
  have XJ := Lib.hid (X9.out.apart HDj.out.ap hneP)
  have LJ := Lib.hid (L9.out.apart HDj.out.ap)
  have HSJ := Lib.hid (HDj.out.at HS9.out)
  have HBJ := Lib.hid (show Below W.heap.size W wj from HB9.out.trans (HDj.out.ap.below (by omega) HB9.out.size))
  have HDZ := Lib.hid (Held.start HSJ.out)
  clear hr2 hl2 HLj X9 L9 HB9 HDj HGE HMK
  go_upto_region 21 with fail
  go_cut [127, 128, 129] (fun s127 s128 s129 wx => ∃ T2 : Nat, s127 = .slice (some ⟨T2, 0, none⟩) 5 5 ∧ s128 = .int .i64 5 ∧ s129 = .int .i64 0 ∧ ¬ T2 = W0.heap.size ∧ Hid (Sb5 W0.heap.size wx T2) ∧ Hid (Held wj W0.heap.size ra rn rc wx))
  case first =>
    refine wp_region_inv 107 23 (fun ts listed wx => ∃ t107 t108 t109 t110 t111 t112 t113 t114 t115 t116 t117 t118 t119 t120 t121 t122 t123 t124 t125 t126 t127 t128 t129 : Value, ts = [t107, t108, t109, t110, t111, t112, t113, t114, t115, t116, t117, t118, t119, t120, t121, t122, t123, t124, t125, t126, t127, t128, t129] ∧ Hid (Held wj W0.heap.size ra rn rc wx) ∧ (listed.getD 0 false = true → VA W0.heap.size A9 n9 c9 t107 wx) ∧ (listed.getD 1 false = true → t108 = .agg #[.int .i64 pn, .int .i64 pd, .int .i64 ln, .int .i64 ld]) ∧ (listed.getD 2 false = true → VB W0.heap.size 1 t109 wx) ∧ (listed.getD 3 false = true → t110 = .pointer (some ⟨W0.heap.size, 0, none⟩)) ∧ (listed.getD 4 false = true → VF t111) ∧ (listed.getD 5 false = true → t112 = .pointer (some ⟨W0.heap.size, 0, none⟩)) ∧ (listed.getD 6 false = true → VF t113) ∧ (listed.getD 7 false = true → VK t114) ∧ (listed.getD 8 false = true → t115 = .pointer (some ⟨W0.heap.size, 0, none⟩)) ∧ (listed.getD 9 false = true → VF t116) ∧ (listed.getD 10 false = true → t117 = .pointer (some ⟨W0.heap.size, 0, none⟩)) ∧ (listed.getD 11 false = true → VF t118) ∧ (listed.getD 12 false = true → VK t119) ∧ (listed.getD 13 false = true → t120 = .pointer (some ⟨W0.heap.size, 0, none⟩)) ∧ (listed.getD 14 false = true → VF t121) ∧ (listed.getD 15 false = true → t122 = .pointer (some ⟨W0.heap.size, 0, none⟩)) ∧ (listed.getD 16 false = true → VF t123) ∧ (listed.getD 17 false = true → VK t124) ∧ (listed.getD 18 false = true → VB W0.heap.size 3 t125 wx) ∧ (listed.getD 19 false = true → VA W0.heap.size (some ⟨G, 0, none⟩) m m t126 wx) ∧ (listed.getD 20 false = true → VM W0.heap.size t127 wx) ∧ (listed.getD 21 false = true → t128 = .int .i64 5) ∧ (listed.getD 22 false = true → t129 = .int .i64 0)) (by kernel_rfl) (by kernel_rfl) ?h0 ?hstep ?hdone
    case h0 =>
      exact ⟨_, _, _, _, _, _, _, _, _, _, _, _, _, _, _, _, _, _, _, _, _, _, _, rfl, HDZ.out.drew, (fun h => absurd h (by decide)), (fun h => absurd h (by decide)), (fun h => absurd h (by decide)), (fun h => absurd h (by decide)), (fun h => absurd h (by decide)), (fun h => absurd h (by decide)), (fun h => absurd h (by decide)), (fun h => absurd h (by decide)), (fun h => absurd h (by decide)), (fun h => absurd h (by decide)), (fun h => absurd h (by decide)), (fun h => absurd h (by decide)), (fun h => absurd h (by decide)), (fun h => absurd h (by decide)), (fun h => absurd h (by decide)), (fun h => absurd h (by decide)), (fun h => absurd h (by decide)), (fun h => absurd h (by decide)), (fun h => absurd h (by decide)), (fun h => absurd h (by decide)), (fun h => absurd h (by decide)), (fun h => absurd h (by decide)), (fun h => absurd h (by decide))⟩
    case hstep =>
      refine StepsI.cons (j := 1) rfl ?s0 (StepsI.cons (j := 2) rfl ?s1 (StepsI.cons (j := 3) rfl ?s2 (StepsI.cons (j := 4) rfl ?s3 (StepsI.cons (j := 5) rfl ?s4 (StepsI.cons (j := 6) rfl ?s5 (StepsI.cons (j := 7) rfl ?s6 (StepsI.cons (j := 8) rfl ?s7 (StepsI.cons (j := 9) rfl ?s8 (StepsI.cons (j := 10) rfl ?s9 (StepsI.cons (j := 11) rfl ?s10 (StepsI.cons (j := 12) rfl ?s11 (StepsI.cons (j := 13) rfl ?s12 (StepsI.cons (j := 14) rfl ?s13 (StepsI.cons (j := 15) rfl ?s14 (StepsI.cons (j := 16) rfl ?s15 (StepsI.cons (j := 17) rfl ?s16 (StepsI.cons (j := 18) rfl ?s17 (StepsI.cons (j := 19) rfl ?s18 (StepsI.cons (j := 20) rfl ?s19 (StepsI.cons (j := 21) rfl ?s20 (StepsI.cons (j := 22) rfl ?s21 (StepsI.cons (j := 23) rfl ?s22 (StepsI.nil)))))))))))))))))))))))
      case s0 =>
        intro listed ts wx hall hI K hK
        obtain ⟨t107, t108, t109, t110, t111, t112, t113, t114, t115, t116, t117, t118, t119, t120, t121, t122, t123, t124, t125, t126, t127, t128, t129, hts, HH, h0, h1, h2, h3, h4, h5, h6, h7, h8, h9, h10, h11, h12, h13, h14, h15, h16, h17, h18, h19, h20, h21, h22⟩ := hI
        rw [if_pos (by rfl)]
        subst hts
        simp only [putL, Act.put, List.getElem_toArray, List.getElem_cons_zero, List.getElem_cons_succ, List.setIfInBounds_toArray, List.set_cons_zero, List.set_cons_succ]
        go_simp
        have hk := hK.out _ _ ⟨_, t108, t109, t110, t111, t112, t113, t114, t115, t116, t117, t118, t119, t120, t121, t122, t123, t124, t125, t126, t127, t128, t129, rfl, HH, (fun _ => ⟨rfl, LJ.out.apart HH.out.ap⟩), (keepV h1 (by decide)), (keepV h2 (by decide)), (keepV h3 (by decide)), (keepV h4 (by decide)), (keepV h5 (by decide)), (keepV h6 (by decide)), (keepV h7 (by decide)), (keepV h8 (by decide)), (keepV h9 (by decide)), (keepV h10 (by decide)), (keepV h11 (by decide)), (keepV h12 (by decide)), (keepV h13 (by decide)), (keepV h14 (by decide)), (keepV h15 (by decide)), (keepV h16 (by decide)), (keepV h17 (by decide)), (keepV h18 (by decide)), (keepV h19 (by decide)), (keepV h20 (by decide)), (keepV h21 (by decide)), (keepV h22 (by decide))⟩
        simp only [putL, Act.put, List.getElem_toArray, List.getElem_cons_zero, List.getElem_cons_succ, List.setIfInBounds_toArray, List.set_cons_zero, List.set_cons_succ] at hk
        exact hk
      case s1 =>
        intro listed ts wx hall hI K hK
        obtain ⟨t107, t108, t109, t110, t111, t112, t113, t114, t115, t116, t117, t118, t119, t120, t121, t122, t123, t124, t125, t126, t127, t128, t129, hts, HH, h0, h1, h2, h3, h4, h5, h6, h7, h8, h9, h10, h11, h12, h13, h14, h15, h16, h17, h18, h19, h20, h21, h22⟩ := hI
        rw [if_pos (by rfl)]
        subst hts
        simp only [putL, Act.put, List.getElem_toArray, List.getElem_cons_zero, List.getElem_cons_succ, List.setIfInBounds_toArray, List.set_cons_zero, List.set_cons_succ]
        obtain ⟨q0, q1, q2, q3⟩ := XJ.out.apart HH.out.ap hneP
        go_simp
        have hk := hK.out _ _ ⟨t107, _, t109, t110, t111, t112, t113, t114, t115, t116, t117, t118, t119, t120, t121, t122, t123, t124, t125, t126, t127, t128, t129, rfl, HH, (keepV h0 (by decide)), (fun _ => rfl), (keepV h2 (by decide)), (keepV h3 (by decide)), (keepV h4 (by decide)), (keepV h5 (by decide)), (keepV h6 (by decide)), (keepV h7 (by decide)), (keepV h8 (by decide)), (keepV h9 (by decide)), (keepV h10 (by decide)), (keepV h11 (by decide)), (keepV h12 (by decide)), (keepV h13 (by decide)), (keepV h14 (by decide)), (keepV h15 (by decide)), (keepV h16 (by decide)), (keepV h17 (by decide)), (keepV h18 (by decide)), (keepV h19 (by decide)), (keepV h20 (by decide)), (keepV h21 (by decide)), (keepV h22 (by decide))⟩
        simp only [putL, Act.put, List.getElem_toArray, List.getElem_cons_zero, List.getElem_cons_succ, List.setIfInBounds_toArray, List.set_cons_zero, List.set_cons_succ] at hk
        exact hk
      case s2 =>
        intro listed ts wx hall hI K hK
        obtain ⟨t107, t108, t109, t110, t111, t112, t113, t114, t115, t116, t117, t118, t119, t120, t121, t122, t123, t124, t125, t126, t127, t128, t129, hts, HH, h0, h1, h2, h3, h4, h5, h6, h7, h8, h9, h10, h11, h12, h13, h14, h15, h16, h17, h18, h19, h20, h21, h22⟩ := hI
        rw [if_pos (by rfl)]
        subst hts
        simp only [putL, Act.put, List.getElem_toArray, List.getElem_cons_zero, List.getElem_cons_succ, List.setIfInBounds_toArray, List.set_cons_zero, List.set_cons_succ]
        have d1 : listed.getD 1 false = true := hall ⟨1, Ground.data⟩ (by simp) (by rfl)
        obtain rfl := h1 d1
        have hlt := HH.out.lt
        go_simp
        have HH2 := Lib.hid (HH.out.alloc (.cells #[.int .i64 pn, .int .i64 pd, .int .i64 ln, .int .i64 ld] 25))
        have hap := (Apart.refl W0.heap.size wx).alloc (.cells #[.int .i64 pn, .int .i64 pd, .int .i64 ln, .int .i64 ld] 25)
        have hk := hK.out _ _ ⟨t107, _, _, t110, t111, t112, t113, t114, t115, t116, t117, t118, t119, t120, t121, t122, t123, t124, t125, t126, t127, t128, t129, rfl, HH2, (fun hd => (keepV h0 (by decide) hd).apart hap), (keepV h1 (by decide)), (fun _ => ⟨some ⟨wx.heap.size, 0, none⟩, rfl, IsB.block (rowC_one wx ⟨pn, pd, ln, ld⟩ 25) (Nat.ne_of_gt hlt) rfl (by omega) (by omega)⟩), (keepV h3 (by decide)), (keepV h4 (by decide)), (keepV h5 (by decide)), (keepV h6 (by decide)), (keepV h7 (by decide)), (keepV h8 (by decide)), (keepV h9 (by decide)), (keepV h10 (by decide)), (keepV h11 (by decide)), (keepV h12 (by decide)), (keepV h13 (by decide)), (keepV h14 (by decide)), (keepV h15 (by decide)), (keepV h16 (by decide)), (keepV h17 (by decide)), (fun hd => (keepV h18 (by decide) hd).apart hap), (fun hd => (keepV h19 (by decide) hd).apart hap), (fun hd => (keepV h20 (by decide) hd).apart hap), (keepV h21 (by decide)), (keepV h22 (by decide))⟩
        simp only [putL, Act.put, List.getElem_toArray, List.getElem_cons_zero, List.getElem_cons_succ, List.setIfInBounds_toArray, List.set_cons_zero, List.set_cons_succ] at hk
        exact hk
      case s3 =>
        intro listed ts wx hall hI K hK
        obtain ⟨t107, t108, t109, t110, t111, t112, t113, t114, t115, t116, t117, t118, t119, t120, t121, t122, t123, t124, t125, t126, t127, t128, t129, hts, HH, h0, h1, h2, h3, h4, h5, h6, h7, h8, h9, h10, h11, h12, h13, h14, h15, h16, h17, h18, h19, h20, h21, h22⟩ := hI
        rw [if_pos (by rfl)]
        subst hts
        simp only [putL, Act.put, List.getElem_toArray, List.getElem_cons_zero, List.getElem_cons_succ, List.setIfInBounds_toArray, List.set_cons_zero, List.set_cons_succ]
        go_simp
        have hk := hK.out _ _ ⟨t107, t108, t109, _, t111, t112, t113, t114, t115, t116, t117, t118, t119, t120, t121, t122, t123, t124, t125, t126, t127, t128, t129, rfl, HH, (keepV h0 (by decide)), (keepV h1 (by decide)), (keepV h2 (by decide)), (fun _ => rfl), (keepV h4 (by decide)), (keepV h5 (by decide)), (keepV h6 (by decide)), (keepV h7 (by decide)), (keepV h8 (by decide)), (keepV h9 (by decide)), (keepV h10 (by decide)), (keepV h11 (by decide)), (keepV h12 (by decide)), (keepV h13 (by decide)), (keepV h14 (by decide)), (keepV h15 (by decide)), (keepV h16 (by decide)), (keepV h17 (by decide)), (keepV h18 (by decide)), (keepV h19 (by decide)), (keepV h20 (by decide)), (keepV h21 (by decide)), (keepV h22 (by decide))⟩
        simp only [putL, Act.put, List.getElem_toArray, List.getElem_cons_zero, List.getElem_cons_succ, List.setIfInBounds_toArray, List.set_cons_zero, List.set_cons_succ] at hk
        exact hk
      case s4 =>
        intro listed ts wx hall hI K hK
        obtain ⟨t107, t108, t109, t110, t111, t112, t113, t114, t115, t116, t117, t118, t119, t120, t121, t122, t123, t124, t125, t126, t127, t128, t129, hts, HH, h0, h1, h2, h3, h4, h5, h6, h7, h8, h9, h10, h11, h12, h13, h14, h15, h16, h17, h18, h19, h20, h21, h22⟩ := hI
        rw [if_pos (by rfl)]
        subst hts
        simp only [putL, Act.put, List.getElem_toArray, List.getElem_cons_zero, List.getElem_cons_succ, List.setIfInBounds_toArray, List.set_cons_zero, List.set_cons_succ]
        have d3 : listed.getD 3 false = true := hall ⟨3, Ground.data⟩ (by simp) (by rfl)
        obtain rfl := h3 d3
        go_simp
        with_reducible refine (frac_any 9 3 (by omega) (by omega) (by omega) (by omega) W0.heap.size ra rn rc _ (HH.out.at HSJ.out)).mono ?_
        rintro e w99 ⟨x, y, hxy, rfl, hs, hap⟩
        have HH2 := Lib.hid (HH.out.call hs hap)
        have hk := hK.out _ _ ⟨t107, t108, t109, _, .agg #[.int .i64 x, .int .i64 y], t112, t113, t114, t115, t116, t117, t118, t119, t120, t121, t122, t123, t124, t125, t126, t127, t128, t129, rfl, HH2, (fun hd => (keepV h0 (by decide) hd).apart hap), (keepV h1 (by decide)), (fun hd => (keepV h2 (by decide) hd).apart hap), (keepV h3 (by decide)), (fun _ => ⟨_, _, rfl⟩), (keepV h5 (by decide)), (keepV h6 (by decide)), (keepV h7 (by decide)), (keepV h8 (by decide)), (keepV h9 (by decide)), (keepV h10 (by decide)), (keepV h11 (by decide)), (keepV h12 (by decide)), (keepV h13 (by decide)), (keepV h14 (by decide)), (keepV h15 (by decide)), (keepV h16 (by decide)), (keepV h17 (by decide)), (fun hd => (keepV h18 (by decide) hd).apart hap), (fun hd => (keepV h19 (by decide) hd).apart hap), (fun hd => (keepV h20 (by decide) hd).apart hap), (keepV h21 (by decide)), (keepV h22 (by decide))⟩
        simp only [putL, Act.put, List.getElem_toArray, List.getElem_cons_zero, List.getElem_cons_succ, List.setIfInBounds_toArray, List.set_cons_zero, List.set_cons_succ] at hk
        exact hk
      case s5 =>
        intro listed ts wx hall hI K hK
        obtain ⟨t107, t108, t109, t110, t111, t112, t113, t114, t115, t116, t117, t118, t119, t120, t121, t122, t123, t124, t125, t126, t127, t128, t129, hts, HH, h0, h1, h2, h3, h4, h5, h6, h7, h8, h9, h10, h11, h12, h13, h14, h15, h16, h17, h18, h19, h20, h21, h22⟩ := hI
        rw [if_pos (by rfl)]
        subst hts
        simp only [putL, Act.put, List.getElem_toArray, List.getElem_cons_zero, List.getElem_cons_succ, List.setIfInBounds_toArray, List.set_cons_zero, List.set_cons_succ]
        go_simp
        have hk := hK.out _ _ ⟨t107, t108, t109, t110, t111, _, t113, t114, t115, t116, t117, t118, t119, t120, t121, t122, t123, t124, t125, t126, t127, t128, t129, rfl, HH, (keepV h0 (by decide)), (keepV h1 (by decide)), (keepV h2 (by decide)), (keepV h3 (by decide)), (keepV h4 (by decide)), (fun _ => rfl), (keepV h6 (by decide)), (keepV h7 (by decide)), (keepV h8 (by decide)), (keepV h9 (by decide)), (keepV h10 (by decide)), (keepV h11 (by decide)), (keepV h12 (by decide)), (keepV h13 (by decide)), (keepV h14 (by decide)), (keepV h15 (by decide)), (keepV h16 (by decide)), (keepV h17 (by decide)), (keepV h18 (by decide)), (keepV h19 (by decide)), (keepV h20 (by decide)), (keepV h21 (by decide)), (keepV h22 (by decide))⟩
        simp only [putL, Act.put, List.getElem_toArray, List.getElem_cons_zero, List.getElem_cons_succ, List.setIfInBounds_toArray, List.set_cons_zero, List.set_cons_succ] at hk
        exact hk
      case s6 =>
        intro listed ts wx hall hI K hK
        obtain ⟨t107, t108, t109, t110, t111, t112, t113, t114, t115, t116, t117, t118, t119, t120, t121, t122, t123, t124, t125, t126, t127, t128, t129, hts, HH, h0, h1, h2, h3, h4, h5, h6, h7, h8, h9, h10, h11, h12, h13, h14, h15, h16, h17, h18, h19, h20, h21, h22⟩ := hI
        rw [if_pos (by rfl)]
        subst hts
        simp only [putL, Act.put, List.getElem_toArray, List.getElem_cons_zero, List.getElem_cons_succ, List.setIfInBounds_toArray, List.set_cons_zero, List.set_cons_succ]
        have d5 : listed.getD 5 false = true := hall ⟨5, Ground.data⟩ (by simp) (by rfl)
        obtain rfl := h5 d5
        go_simp
        with_reducible refine (frac_any 9 3 (by omega) (by omega) (by omega) (by omega) W0.heap.size ra rn rc _ (HH.out.at HSJ.out)).mono ?_
        rintro e w99 ⟨x, y, hxy, rfl, hs, hap⟩
        have HH2 := Lib.hid (HH.out.call hs hap)
        have hk := hK.out _ _ ⟨t107, t108, t109, t110, t111, _, .agg #[.int .i64 x, .int .i64 y], t114, t115, t116, t117, t118, t119, t120, t121, t122, t123, t124, t125, t126, t127, t128, t129, rfl, HH2, (fun hd => (keepV h0 (by decide) hd).apart hap), (keepV h1 (by decide)), (fun hd => (keepV h2 (by decide) hd).apart hap), (keepV h3 (by decide)), (keepV h4 (by decide)), (keepV h5 (by decide)), (fun _ => ⟨_, _, rfl⟩), (keepV h7 (by decide)), (keepV h8 (by decide)), (keepV h9 (by decide)), (keepV h10 (by decide)), (keepV h11 (by decide)), (keepV h12 (by decide)), (keepV h13 (by decide)), (keepV h14 (by decide)), (keepV h15 (by decide)), (keepV h16 (by decide)), (keepV h17 (by decide)), (fun hd => (keepV h18 (by decide) hd).apart hap), (fun hd => (keepV h19 (by decide) hd).apart hap), (fun hd => (keepV h20 (by decide) hd).apart hap), (keepV h21 (by decide)), (keepV h22 (by decide))⟩
        simp only [putL, Act.put, List.getElem_toArray, List.getElem_cons_zero, List.getElem_cons_succ, List.setIfInBounds_toArray, List.set_cons_zero, List.set_cons_succ] at hk
        exact hk
      case s7 =>
        intro listed ts wx hall hI K hK
        obtain ⟨t107, t108, t109, t110, t111, t112, t113, t114, t115, t116, t117, t118, t119, t120, t121, t122, t123, t124, t125, t126, t127, t128, t129, hts, HH, h0, h1, h2, h3, h4, h5, h6, h7, h8, h9, h10, h11, h12, h13, h14, h15, h16, h17, h18, h19, h20, h21, h22⟩ := hI
        rw [if_pos (by rfl)]
        subst hts
        simp only [putL, Act.put, List.getElem_toArray, List.getElem_cons_zero, List.getElem_cons_succ, List.setIfInBounds_toArray, List.set_cons_zero, List.set_cons_succ]
        have d4 : listed.getD 4 false = true := hall ⟨4, Ground.data⟩ (by simp) (by rfl)
        obtain ⟨x, y, rfl⟩ := h4 d4
        have d6 : listed.getD 6 false = true := hall ⟨6, Ground.data⟩ (by simp) (by rfl)
        obtain ⟨x2, y2, rfl⟩ := h6 d6
        go_simp
        have hk := hK.out _ _ ⟨t107, t108, t109, t110, _, t112, _, .agg #[.int .i64 x, .int .i64 y, .int .i64 x2, .int .i64 y2], t115, t116, t117, t118, t119, t120, t121, t122, t123, t124, t125, t126, t127, t128, t129, rfl, HH, (keepV h0 (by decide)), (keepV h1 (by decide)), (keepV h2 (by decide)), (keepV h3 (by decide)), (keepV h4 (by decide)), (keepV h5 (by decide)), (keepV h6 (by decide)), (fun _ => ⟨_, _, _, _, rfl⟩), (keepV h8 (by decide)), (keepV h9 (by decide)), (keepV h10 (by decide)), (keepV h11 (by decide)), (keepV h12 (by decide)), (keepV h13 (by decide)), (keepV h14 (by decide)), (keepV h15 (by decide)), (keepV h16 (by decide)), (keepV h17 (by decide)), (keepV h18 (by decide)), (keepV h19 (by decide)), (keepV h20 (by decide)), (keepV h21 (by decide)), (keepV h22 (by decide))⟩
        simp only [putL, Act.put, List.getElem_toArray, List.getElem_cons_zero, List.getElem_cons_succ, List.setIfInBounds_toArray, List.set_cons_zero, List.set_cons_succ] at hk
        exact hk
      case s8 =>
        intro listed ts wx hall hI K hK
        obtain ⟨t107, t108, t109, t110, t111, t112, t113, t114, t115, t116, t117, t118, t119, t120, t121, t122, t123, t124, t125, t126, t127, t128, t129, hts, HH, h0, h1, h2, h3, h4, h5, h6, h7, h8, h9, h10, h11, h12, h13, h14, h15, h16, h17, h18, h19, h20, h21, h22⟩ := hI
        rw [if_pos (by rfl)]
        subst hts
        simp only [putL, Act.put, List.getElem_toArray, List.getElem_cons_zero, List.getElem_cons_succ, List.setIfInBounds_toArray, List.set_cons_zero, List.set_cons_succ]
        go_simp
        have hk := hK.out _ _ ⟨t107, t108, t109, t110, t111, t112, t113, t114, _, t116, t117, t118, t119, t120, t121, t122, t123, t124, t125, t126, t127, t128, t129, rfl, HH, (keepV h0 (by decide)), (keepV h1 (by decide)), (keepV h2 (by decide)), (keepV h3 (by decide)), (keepV h4 (by decide)), (keepV h5 (by decide)), (keepV h6 (by decide)), (keepV h7 (by decide)), (fun _ => rfl), (keepV h9 (by decide)), (keepV h10 (by decide)), (keepV h11 (by decide)), (keepV h12 (by decide)), (keepV h13 (by decide)), (keepV h14 (by decide)), (keepV h15 (by decide)), (keepV h16 (by decide)), (keepV h17 (by decide)), (keepV h18 (by decide)), (keepV h19 (by decide)), (keepV h20 (by decide)), (keepV h21 (by decide)), (keepV h22 (by decide))⟩
        simp only [putL, Act.put, List.getElem_toArray, List.getElem_cons_zero, List.getElem_cons_succ, List.setIfInBounds_toArray, List.set_cons_zero, List.set_cons_succ] at hk
        exact hk
      case s9 =>
        intro listed ts wx hall hI K hK
        obtain ⟨t107, t108, t109, t110, t111, t112, t113, t114, t115, t116, t117, t118, t119, t120, t121, t122, t123, t124, t125, t126, t127, t128, t129, hts, HH, h0, h1, h2, h3, h4, h5, h6, h7, h8, h9, h10, h11, h12, h13, h14, h15, h16, h17, h18, h19, h20, h21, h22⟩ := hI
        rw [if_pos (by rfl)]
        subst hts
        simp only [putL, Act.put, List.getElem_toArray, List.getElem_cons_zero, List.getElem_cons_succ, List.setIfInBounds_toArray, List.set_cons_zero, List.set_cons_succ]
        have d8 : listed.getD 8 false = true := hall ⟨8, Ground.data⟩ (by simp) (by rfl)
        obtain rfl := h8 d8
        go_simp
        with_reducible refine (frac_any 9 4 (by omega) (by omega) (by omega) (by omega) W0.heap.size ra rn rc _ (HH.out.at HSJ.out)).mono ?_
        rintro e w99 ⟨x, y, hxy, rfl, hs, hap⟩
        have HH2 := Lib.hid (HH.out.call hs hap)
        have hk := hK.out _ _ ⟨t107, t108, t109, t110, t111, t112, t113, t114, _, .agg #[.int .i64 x, .int .i64 y], t117, t118, t119, t120, t121, t122, t123, t124, t125, t126, t127, t128, t129, rfl, HH2, (fun hd => (keepV h0 (by decide) hd).apart hap), (keepV h1 (by decide)), (fun hd => (keepV h2 (by decide) hd).apart hap), (keepV h3 (by decide)), (keepV h4 (by decide)), (keepV h5 (by decide)), (keepV h6 (by decide)), (keepV h7 (by decide)), (keepV h8 (by decide)), (fun _ => ⟨_, _, rfl⟩), (keepV h10 (by decide)), (keepV h11 (by decide)), (keepV h12 (by decide)), (keepV h13 (by decide)), (keepV h14 (by decide)), (keepV h15 (by decide)), (keepV h16 (by decide)), (keepV h17 (by decide)), (fun hd => (keepV h18 (by decide) hd).apart hap), (fun hd => (keepV h19 (by decide) hd).apart hap), (fun hd => (keepV h20 (by decide) hd).apart hap), (keepV h21 (by decide)), (keepV h22 (by decide))⟩
        simp only [putL, Act.put, List.getElem_toArray, List.getElem_cons_zero, List.getElem_cons_succ, List.setIfInBounds_toArray, List.set_cons_zero, List.set_cons_succ] at hk
        exact hk
      case s10 =>
        intro listed ts wx hall hI K hK
        obtain ⟨t107, t108, t109, t110, t111, t112, t113, t114, t115, t116, t117, t118, t119, t120, t121, t122, t123, t124, t125, t126, t127, t128, t129, hts, HH, h0, h1, h2, h3, h4, h5, h6, h7, h8, h9, h10, h11, h12, h13, h14, h15, h16, h17, h18, h19, h20, h21, h22⟩ := hI
        rw [if_pos (by rfl)]
        subst hts
        simp only [putL, Act.put, List.getElem_toArray, List.getElem_cons_zero, List.getElem_cons_succ, List.setIfInBounds_toArray, List.set_cons_zero, List.set_cons_succ]
        go_simp
        have hk := hK.out _ _ ⟨t107, t108, t109, t110, t111, t112, t113, t114, t115, t116, _, t118, t119, t120, t121, t122, t123, t124, t125, t126, t127, t128, t129, rfl, HH, (keepV h0 (by decide)), (keepV h1 (by decide)), (keepV h2 (by decide)), (keepV h3 (by decide)), (keepV h4 (by decide)), (keepV h5 (by decide)), (keepV h6 (by decide)), (keepV h7 (by decide)), (keepV h8 (by decide)), (keepV h9 (by decide)), (fun _ => rfl), (keepV h11 (by decide)), (keepV h12 (by decide)), (keepV h13 (by decide)), (keepV h14 (by decide)), (keepV h15 (by decide)), (keepV h16 (by decide)), (keepV h17 (by decide)), (keepV h18 (by decide)), (keepV h19 (by decide)), (keepV h20 (by decide)), (keepV h21 (by decide)), (keepV h22 (by decide))⟩
        simp only [putL, Act.put, List.getElem_toArray, List.getElem_cons_zero, List.getElem_cons_succ, List.setIfInBounds_toArray, List.set_cons_zero, List.set_cons_succ] at hk
        exact hk
      case s11 =>
        intro listed ts wx hall hI K hK
        obtain ⟨t107, t108, t109, t110, t111, t112, t113, t114, t115, t116, t117, t118, t119, t120, t121, t122, t123, t124, t125, t126, t127, t128, t129, hts, HH, h0, h1, h2, h3, h4, h5, h6, h7, h8, h9, h10, h11, h12, h13, h14, h15, h16, h17, h18, h19, h20, h21, h22⟩ := hI
        rw [if_pos (by rfl)]
        subst hts
        simp only [putL, Act.put, List.getElem_toArray, List.getElem_cons_zero, List.getElem_cons_succ, List.setIfInBounds_toArray, List.set_cons_zero, List.set_cons_succ]
        have d10 : listed.getD 10 false = true := hall ⟨10, Ground.data⟩ (by simp) (by rfl)
        obtain rfl := h10 d10
        go_simp
        with_reducible refine (frac_any 9 2 (by omega) (by omega) (by omega) (by omega) W0.heap.size ra rn rc _ (HH.out.at HSJ.out)).mono ?_
        rintro e w99 ⟨x, y, hxy, rfl, hs, hap⟩
        have HH2 := Lib.hid (HH.out.call hs hap)
        have hk := hK.out _ _ ⟨t107, t108, t109, t110, t111, t112, t113, t114, t115, t116, _, .agg #[.int .i64 x, .int .i64 y], t119, t120, t121, t122, t123, t124, t125, t126, t127, t128, t129, rfl, HH2, (fun hd => (keepV h0 (by decide) hd).apart hap), (keepV h1 (by decide)), (fun hd => (keepV h2 (by decide) hd).apart hap), (keepV h3 (by decide)), (keepV h4 (by decide)), (keepV h5 (by decide)), (keepV h6 (by decide)), (keepV h7 (by decide)), (keepV h8 (by decide)), (keepV h9 (by decide)), (keepV h10 (by decide)), (fun _ => ⟨_, _, rfl⟩), (keepV h12 (by decide)), (keepV h13 (by decide)), (keepV h14 (by decide)), (keepV h15 (by decide)), (keepV h16 (by decide)), (keepV h17 (by decide)), (fun hd => (keepV h18 (by decide) hd).apart hap), (fun hd => (keepV h19 (by decide) hd).apart hap), (fun hd => (keepV h20 (by decide) hd).apart hap), (keepV h21 (by decide)), (keepV h22 (by decide))⟩
        simp only [putL, Act.put, List.getElem_toArray, List.getElem_cons_zero, List.getElem_cons_succ, List.setIfInBounds_toArray, List.set_cons_zero, List.set_cons_succ] at hk
        exact hk
      case s12 =>
        intro listed ts wx hall hI K hK
        obtain ⟨t107, t108, t109, t110, t111, t112, t113, t114, t115, t116, t117, t118, t119, t120, t121, t122, t123, t124, t125, t126, t127, t128, t129, hts, HH, h0, h1, h2, h3, h4, h5, h6, h7, h8, h9, h10, h11, h12, h13, h14, h15, h16, h17, h18, h19, h20, h21, h22⟩ := hI
        rw [if_pos (by rfl)]
        subst hts
        simp only [putL, Act.put, List.getElem_toArray, List.getElem_cons_zero, List.getElem_cons_succ, List.setIfInBounds_toArray, List.set_cons_zero, List.set_cons_succ]
        have d9 : listed.getD 9 false = true := hall ⟨9, Ground.data⟩ (by simp) (by rfl)
        obtain ⟨x, y, rfl⟩ := h9 d9
        have d11 : listed.getD 11 false = true := hall ⟨11, Ground.data⟩ (by simp) (by rfl)
        obtain ⟨x2, y2, rfl⟩ := h11 d11
        go_simp
        have hk := hK.out _ _ ⟨t107, t108, t109, t110, t111, t112, t113, t114, t115, _, t117, _, .agg #[.int .i64 x, .int .i64 y, .int .i64 x2, .int .i64 y2], t120, t121, t122, t123, t124, t125, t126, t127, t128, t129, rfl, HH, (keepV h0 (by decide)), (keepV h1 (by decide)), (keepV h2 (by decide)), (keepV h3 (by decide)), (keepV h4 (by decide)), (keepV h5 (by decide)), (keepV h6 (by decide)), (keepV h7 (by decide)), (keepV h8 (by decide)), (keepV h9 (by decide)), (keepV h10 (by decide)), (keepV h11 (by decide)), (fun _ => ⟨_, _, _, _, rfl⟩), (keepV h13 (by decide)), (keepV h14 (by decide)), (keepV h15 (by decide)), (keepV h16 (by decide)), (keepV h17 (by decide)), (keepV h18 (by decide)), (keepV h19 (by decide)), (keepV h20 (by decide)), (keepV h21 (by decide)), (keepV h22 (by decide))⟩
        simp only [putL, Act.put, List.getElem_toArray, List.getElem_cons_zero, List.getElem_cons_succ, List.setIfInBounds_toArray, List.set_cons_zero, List.set_cons_succ] at hk
        exact hk
      case s13 =>
        intro listed ts wx hall hI K hK
        obtain ⟨t107, t108, t109, t110, t111, t112, t113, t114, t115, t116, t117, t118, t119, t120, t121, t122, t123, t124, t125, t126, t127, t128, t129, hts, HH, h0, h1, h2, h3, h4, h5, h6, h7, h8, h9, h10, h11, h12, h13, h14, h15, h16, h17, h18, h19, h20, h21, h22⟩ := hI
        rw [if_pos (by rfl)]
        subst hts
        simp only [putL, Act.put, List.getElem_toArray, List.getElem_cons_zero, List.getElem_cons_succ, List.setIfInBounds_toArray, List.set_cons_zero, List.set_cons_succ]
        go_simp
        have hk := hK.out _ _ ⟨t107, t108, t109, t110, t111, t112, t113, t114, t115, t116, t117, t118, t119, _, t121, t122, t123, t124, t125, t126, t127, t128, t129, rfl, HH, (keepV h0 (by decide)), (keepV h1 (by decide)), (keepV h2 (by decide)), (keepV h3 (by decide)), (keepV h4 (by decide)), (keepV h5 (by decide)), (keepV h6 (by decide)), (keepV h7 (by decide)), (keepV h8 (by decide)), (keepV h9 (by decide)), (keepV h10 (by decide)), (keepV h11 (by decide)), (keepV h12 (by decide)), (fun _ => rfl), (keepV h14 (by decide)), (keepV h15 (by decide)), (keepV h16 (by decide)), (keepV h17 (by decide)), (keepV h18 (by decide)), (keepV h19 (by decide)), (keepV h20 (by decide)), (keepV h21 (by decide)), (keepV h22 (by decide))⟩
        simp only [putL, Act.put, List.getElem_toArray, List.getElem_cons_zero, List.getElem_cons_succ, List.setIfInBounds_toArray, List.set_cons_zero, List.set_cons_succ] at hk
        exact hk
      case s14 =>
        intro listed ts wx hall hI K hK
        obtain ⟨t107, t108, t109, t110, t111, t112, t113, t114, t115, t116, t117, t118, t119, t120, t121, t122, t123, t124, t125, t126, t127, t128, t129, hts, HH, h0, h1, h2, h3, h4, h5, h6, h7, h8, h9, h10, h11, h12, h13, h14, h15, h16, h17, h18, h19, h20, h21, h22⟩ := hI
        rw [if_pos (by rfl)]
        subst hts
        simp only [putL, Act.put, List.getElem_toArray, List.getElem_cons_zero, List.getElem_cons_succ, List.setIfInBounds_toArray, List.set_cons_zero, List.set_cons_succ]
        have d13 : listed.getD 13 false = true := hall ⟨13, Ground.data⟩ (by simp) (by rfl)
        obtain rfl := h13 d13
        go_simp
        with_reducible refine (lratio12_any W0.heap.size ra rn rc _ (HH.out.at HSJ.out)).mono ?_
        rintro e w99 ⟨x, y, hxy, rfl, hs, hap⟩
        have HH2 := Lib.hid (HH.out.call hs hap)
        have hk := hK.out _ _ ⟨t107, t108, t109, t110, t111, t112, t113, t114, t115, t116, t117, t118, t119, _, .agg #[.int .i64 x, .int .i64 y], t122, t123, t124, t125, t126, t127, t128, t129, rfl, HH2, (fun hd => (keepV h0 (by decide) hd).apart hap), (keepV h1 (by decide)), (fun hd => (keepV h2 (by decide) hd).apart hap), (keepV h3 (by decide)), (keepV h4 (by decide)), (keepV h5 (by decide)), (keepV h6 (by decide)), (keepV h7 (by decide)), (keepV h8 (by decide)), (keepV h9 (by decide)), (keepV h10 (by decide)), (keepV h11 (by decide)), (keepV h12 (by decide)), (keepV h13 (by decide)), (fun _ => ⟨_, _, rfl⟩), (keepV h15 (by decide)), (keepV h16 (by decide)), (keepV h17 (by decide)), (fun hd => (keepV h18 (by decide) hd).apart hap), (fun hd => (keepV h19 (by decide) hd).apart hap), (fun hd => (keepV h20 (by decide) hd).apart hap), (keepV h21 (by decide)), (keepV h22 (by decide))⟩
        simp only [putL, Act.put, List.getElem_toArray, List.getElem_cons_zero, List.getElem_cons_succ, List.setIfInBounds_toArray, List.set_cons_zero, List.set_cons_succ] at hk
        exact hk
      case s15 =>
        intro listed ts wx hall hI K hK
        obtain ⟨t107, t108, t109, t110, t111, t112, t113, t114, t115, t116, t117, t118, t119, t120, t121, t122, t123, t124, t125, t126, t127, t128, t129, hts, HH, h0, h1, h2, h3, h4, h5, h6, h7, h8, h9, h10, h11, h12, h13, h14, h15, h16, h17, h18, h19, h20, h21, h22⟩ := hI
        rw [if_pos (by rfl)]
        subst hts
        simp only [putL, Act.put, List.getElem_toArray, List.getElem_cons_zero, List.getElem_cons_succ, List.setIfInBounds_toArray, List.set_cons_zero, List.set_cons_succ]
        go_simp
        have hk := hK.out _ _ ⟨t107, t108, t109, t110, t111, t112, t113, t114, t115, t116, t117, t118, t119, t120, t121, _, t123, t124, t125, t126, t127, t128, t129, rfl, HH, (keepV h0 (by decide)), (keepV h1 (by decide)), (keepV h2 (by decide)), (keepV h3 (by decide)), (keepV h4 (by decide)), (keepV h5 (by decide)), (keepV h6 (by decide)), (keepV h7 (by decide)), (keepV h8 (by decide)), (keepV h9 (by decide)), (keepV h10 (by decide)), (keepV h11 (by decide)), (keepV h12 (by decide)), (keepV h13 (by decide)), (keepV h14 (by decide)), (fun _ => rfl), (keepV h16 (by decide)), (keepV h17 (by decide)), (keepV h18 (by decide)), (keepV h19 (by decide)), (keepV h20 (by decide)), (keepV h21 (by decide)), (keepV h22 (by decide))⟩
        simp only [putL, Act.put, List.getElem_toArray, List.getElem_cons_zero, List.getElem_cons_succ, List.setIfInBounds_toArray, List.set_cons_zero, List.set_cons_succ] at hk
        exact hk
      case s16 =>
        intro listed ts wx hall hI K hK
        obtain ⟨t107, t108, t109, t110, t111, t112, t113, t114, t115, t116, t117, t118, t119, t120, t121, t122, t123, t124, t125, t126, t127, t128, t129, hts, HH, h0, h1, h2, h3, h4, h5, h6, h7, h8, h9, h10, h11, h12, h13, h14, h15, h16, h17, h18, h19, h20, h21, h22⟩ := hI
        rw [if_pos (by rfl)]
        subst hts
        simp only [putL, Act.put, List.getElem_toArray, List.getElem_cons_zero, List.getElem_cons_succ, List.setIfInBounds_toArray, List.set_cons_zero, List.set_cons_succ]
        have d15 : listed.getD 15 false = true := hall ⟨15, Ground.data⟩ (by simp) (by rfl)
        obtain rfl := h15 d15
        go_simp
        with_reducible refine (frac_any 9 2 (by omega) (by omega) (by omega) (by omega) W0.heap.size ra rn rc _ (HH.out.at HSJ.out)).mono ?_
        rintro e w99 ⟨x, y, hxy, rfl, hs, hap⟩
        have HH2 := Lib.hid (HH.out.call hs hap)
        have hk := hK.out _ _ ⟨t107, t108, t109, t110, t111, t112, t113, t114, t115, t116, t117, t118, t119, t120, t121, _, .agg #[.int .i64 x, .int .i64 y], t124, t125, t126, t127, t128, t129, rfl, HH2, (fun hd => (keepV h0 (by decide) hd).apart hap), (keepV h1 (by decide)), (fun hd => (keepV h2 (by decide) hd).apart hap), (keepV h3 (by decide)), (keepV h4 (by decide)), (keepV h5 (by decide)), (keepV h6 (by decide)), (keepV h7 (by decide)), (keepV h8 (by decide)), (keepV h9 (by decide)), (keepV h10 (by decide)), (keepV h11 (by decide)), (keepV h12 (by decide)), (keepV h13 (by decide)), (keepV h14 (by decide)), (keepV h15 (by decide)), (fun _ => ⟨_, _, rfl⟩), (keepV h17 (by decide)), (fun hd => (keepV h18 (by decide) hd).apart hap), (fun hd => (keepV h19 (by decide) hd).apart hap), (fun hd => (keepV h20 (by decide) hd).apart hap), (keepV h21 (by decide)), (keepV h22 (by decide))⟩
        simp only [putL, Act.put, List.getElem_toArray, List.getElem_cons_zero, List.getElem_cons_succ, List.setIfInBounds_toArray, List.set_cons_zero, List.set_cons_succ] at hk
        exact hk
      case s17 =>
        intro listed ts wx hall hI K hK
        obtain ⟨t107, t108, t109, t110, t111, t112, t113, t114, t115, t116, t117, t118, t119, t120, t121, t122, t123, t124, t125, t126, t127, t128, t129, hts, HH, h0, h1, h2, h3, h4, h5, h6, h7, h8, h9, h10, h11, h12, h13, h14, h15, h16, h17, h18, h19, h20, h21, h22⟩ := hI
        rw [if_pos (by rfl)]
        subst hts
        simp only [putL, Act.put, List.getElem_toArray, List.getElem_cons_zero, List.getElem_cons_succ, List.setIfInBounds_toArray, List.set_cons_zero, List.set_cons_succ]
        have d14 : listed.getD 14 false = true := hall ⟨14, Ground.data⟩ (by simp) (by rfl)
        obtain ⟨x, y, rfl⟩ := h14 d14
        have d16 : listed.getD 16 false = true := hall ⟨16, Ground.data⟩ (by simp) (by rfl)
        obtain ⟨x2, y2, rfl⟩ := h16 d16
        go_simp
        have hk := hK.out _ _ ⟨t107, t108, t109, t110, t111, t112, t113, t114, t115, t116, t117, t118, t119, t120, _, t122, _, .agg #[.int .i64 x, .int .i64 y, .int .i64 x2, .int .i64 y2], t125, t126, t127, t128, t129, rfl, HH, (keepV h0 (by decide)), (keepV h1 (by decide)), (keepV h2 (by decide)), (keepV h3 (by decide)), (keepV h4 (by decide)), (keepV h5 (by decide)), (keepV h6 (by decide)), (keepV h7 (by decide)), (keepV h8 (by decide)), (keepV h9 (by decide)), (keepV h10 (by decide)), (keepV h11 (by decide)), (keepV h12 (by decide)), (keepV h13 (by decide)), (keepV h14 (by decide)), (keepV h15 (by decide)), (keepV h16 (by decide)), (fun _ => ⟨_, _, _, _, rfl⟩), (keepV h18 (by decide)), (keepV h19 (by decide)), (keepV h20 (by decide)), (keepV h21 (by decide)), (keepV h22 (by decide))⟩
        simp only [putL, Act.put, List.getElem_toArray, List.getElem_cons_zero, List.getElem_cons_succ, List.setIfInBounds_toArray, List.set_cons_zero, List.set_cons_succ] at hk
        exact hk
      case s18 =>
        intro listed ts wx hall hI K hK
        obtain ⟨t107, t108, t109, t110, t111, t112, t113, t114, t115, t116, t117, t118, t119, t120, t121, t122, t123, t124, t125, t126, t127, t128, t129, hts, HH, h0, h1, h2, h3, h4, h5, h6, h7, h8, h9, h10, h11, h12, h13, h14, h15, h16, h17, h18, h19, h20, h21, h22⟩ := hI
        rw [if_pos (by rfl)]
        subst hts
        simp only [putL, Act.put, List.getElem_toArray, List.getElem_cons_zero, List.getElem_cons_succ, List.setIfInBounds_toArray, List.set_cons_zero, List.set_cons_succ]
        have d7 : listed.getD 7 false = true := hall ⟨7, Ground.data⟩ (by simp) (by rfl)
        obtain ⟨xa1, xb1, xc1, xd1, rfl⟩ := h7 d7
        have d12 : listed.getD 12 false = true := hall ⟨12, Ground.data⟩ (by simp) (by rfl)
        obtain ⟨xa2, xb2, xc2, xd2, rfl⟩ := h12 d12
        have d17 : listed.getD 17 false = true := hall ⟨17, Ground.data⟩ (by simp) (by rfl)
        obtain ⟨xa3, xb3, xc3, xd3, rfl⟩ := h17 d17
        have hlt := HH.out.lt
        go_simp
        have HH2 := Lib.hid (HH.out.alloc (.cells #[.int .i64 xa1, .int .i64 xb1, .int .i64 xc1, .int .i64 xd1, .int .i64 xa2, .int .i64 xb2, .int .i64 xc2, .int .i64 xd2, .int .i64 xa3, .int .i64 xb3, .int .i64 xc3, .int .i64 xd3] 25))
        have hap := (Apart.refl W0.heap.size wx).alloc (.cells #[.int .i64 xa1, .int .i64 xb1, .int .i64 xc1, .int .i64 xd1, .int .i64 xa2, .int .i64 xb2, .int .i64 xc2, .int .i64 xd2, .int .i64 xa3, .int .i64 xb3, .int .i64 xc3, .int .i64 xd3] 25)
        have hk := hK.out _ _ ⟨t107, t108, t109, t110, t111, t112, t113, _, t115, t116, t117, t118, _, t120, t121, t122, t123, _, _, t126, t127, t128, t129, rfl, HH2, (fun hd => (keepV h0 (by decide) hd).apart hap), (keepV h1 (by decide)), (fun hd => (keepV h2 (by decide) hd).apart hap), (keepV h3 (by decide)), (keepV h4 (by decide)), (keepV h5 (by decide)), (keepV h6 (by decide)), (keepV h7 (by decide)), (keepV h8 (by decide)), (keepV h9 (by decide)), (keepV h10 (by decide)), (keepV h11 (by decide)), (keepV h12 (by decide)), (keepV h13 (by decide)), (keepV h14 (by decide)), (keepV h15 (by decide)), (keepV h16 (by decide)), (keepV h17 (by decide)), (fun _ => ⟨some ⟨wx.heap.size, 0, none⟩, rfl, IsB.block (RowB.toC (svrow_three wx ⟨xa1, xb1, xc1, xd1⟩ ⟨xa2, xb2, xc2, xd2⟩ ⟨xa3, xb3, xc3, xd3⟩ 25)) (Nat.ne_of_gt hlt) rfl (by omega) (by omega)⟩), (fun hd => (keepV h19 (by decide) hd).apart hap), (fun hd => (keepV h20 (by decide) hd).apart hap), (keepV h21 (by decide)), (keepV h22 (by decide))⟩
        simp only [putL, Act.put, List.getElem_toArray, List.getElem_cons_zero, List.getElem_cons_succ, List.setIfInBounds_toArray, List.set_cons_zero, List.set_cons_succ] at hk
        exact hk
      case s19 =>
        intro listed ts wx hall hI K hK
        obtain ⟨t107, t108, t109, t110, t111, t112, t113, t114, t115, t116, t117, t118, t119, t120, t121, t122, t123, t124, t125, t126, t127, t128, t129, hts, HH, h0, h1, h2, h3, h4, h5, h6, h7, h8, h9, h10, h11, h12, h13, h14, h15, h16, h17, h18, h19, h20, h21, h22⟩ := hI
        rw [if_pos (by rfl)]
        subst hts
        simp only [putL, Act.put, List.getElem_toArray, List.getElem_cons_zero, List.getElem_cons_succ, List.setIfInBounds_toArray, List.set_cons_zero, List.set_cons_succ]
        go_simp
        have hk := hK.out _ _ ⟨t107, t108, t109, t110, t111, t112, t113, t114, t115, t116, t117, t118, t119, t120, t121, t122, t123, t124, t125, _, t127, t128, t129, rfl, HH, (keepV h0 (by decide)), (keepV h1 (by decide)), (keepV h2 (by decide)), (keepV h3 (by decide)), (keepV h4 (by decide)), (keepV h5 (by decide)), (keepV h6 (by decide)), (keepV h7 (by decide)), (keepV h8 (by decide)), (keepV h9 (by decide)), (keepV h10 (by decide)), (keepV h11 (by decide)), (keepV h12 (by decide)), (keepV h13 (by decide)), (keepV h14 (by decide)), (keepV h15 (by decide)), (keepV h16 (by decide)), (keepV h17 (by decide)), (keepV h18 (by decide)), (fun _ => ⟨rfl, LB.out.apart HH.out.ap⟩), (keepV h20 (by decide)), (keepV h21 (by decide)), (keepV h22 (by decide))⟩
        simp only [putL, Act.put, List.getElem_toArray, List.getElem_cons_zero, List.getElem_cons_succ, List.setIfInBounds_toArray, List.set_cons_zero, List.set_cons_succ] at hk
        exact hk
      case s20 =>
        intro listed ts wx hall hI K hK
        obtain ⟨t107, t108, t109, t110, t111, t112, t113, t114, t115, t116, t117, t118, t119, t120, t121, t122, t123, t124, t125, t126, t127, t128, t129, hts, HH, h0, h1, h2, h3, h4, h5, h6, h7, h8, h9, h10, h11, h12, h13, h14, h15, h16, h17, h18, h19, h20, h21, h22⟩ := hI
        rw [if_pos (by rfl)]
        subst hts
        simp only [putL, Act.put, List.getElem_toArray, List.getElem_cons_zero, List.getElem_cons_succ, List.setIfInBounds_toArray, List.set_cons_zero, List.set_cons_succ]
        have d0 : listed.getD 0 false = true := hall ⟨0, Ground.data⟩ (by simp) (by rfl)
        obtain ⟨rfl, hI0⟩ := h0 d0
        have d2 : listed.getD 2 false = true := hall ⟨2, Ground.data⟩ (by simp) (by rfl)
        obtain ⟨A2, rfl, hI2⟩ := h2 d2
        have d18 : listed.getD 18 false = true := hall ⟨18, Ground.data⟩ (by simp) (by rfl)
        obtain ⟨A18, rfl, hI18⟩ := h18 d18
        have d19 : listed.getD 19 false = true := hall ⟨19, Ground.data⟩ (by simp) (by rfl)
        obtain ⟨rfl, hI19⟩ := h19 d19
        have hlt := HH.out.lt
        go_simp
        have HH2 := Lib.hid (HH.out.alloc (.cells #[.slice A9 n9 c9, .slice none 0 0, .slice A2 1 1, .slice A18 3 3, .slice (some ⟨G, 0, none⟩) m m] 26))
        have hap := (Apart.refl W0.heap.size wx).alloc (.cells #[.slice A9 n9 c9, .slice none 0 0, .slice A2 1 1, .slice A18 3 3, .slice (some ⟨G, 0, none⟩) m m] 26)
        have hk := hK.out _ _ ⟨_, t108, _, t110, t111, t112, t113, t114, t115, t116, t117, t118, t119, t120, t121, t122, t123, t124, _, _, _, t128, t129, rfl, HH2, (fun hd => (keepV h0 (by decide) hd).apart hap), (keepV h1 (by decide)), (fun hd => (keepV h2 (by decide) hd).apart hap), (keepV h3 (by decide)), (keepV h4 (by decide)), (keepV h5 (by decide)), (keepV h6 (by decide)), (keepV h7 (by decide)), (keepV h8 (by decide)), (keepV h9 (by decide)), (keepV h10 (by decide)), (keepV h11 (by decide)), (keepV h12 (by decide)), (keepV h13 (by decide)), (keepV h14 (by decide)), (keepV h15 (by decide)), (keepV h16 (by decide)), (keepV h17 (by decide)), (fun hd => (keepV h18 (by decide) hd).apart hap), (fun hd => (keepV h19 (by decide) hd).apart hap), (fun _ => ⟨wx.heap.size, rfl, Nat.ne_of_gt hlt, sb5_new hI0 (.inl rfl) hI2 hI18 hI19 _⟩), (keepV h21 (by decide)), (keepV h22 (by decide))⟩
        simp only [putL, Act.put, List.getElem_toArray, List.getElem_cons_zero, List.getElem_cons_succ, List.setIfInBounds_toArray, List.set_cons_zero, List.set_cons_succ] at hk
        exact hk
      case s21 =>
        intro listed ts wx hall hI K hK
        obtain ⟨t107, t108, t109, t110, t111, t112, t113, t114, t115, t116, t117, t118, t119, t120, t121, t122, t123, t124, t125, t126, t127, t128, t129, hts, HH, h0, h1, h2, h3, h4, h5, h6, h7, h8, h9, h10, h11, h12, h13, h14, h15, h16, h17, h18, h19, h20, h21, h22⟩ := hI
        rw [if_pos (by rfl)]
        subst hts
        simp only [putL, Act.put, List.getElem_toArray, List.getElem_cons_zero, List.getElem_cons_succ, List.setIfInBounds_toArray, List.set_cons_zero, List.set_cons_succ]
        have d20 : listed.getD 20 false = true := hall ⟨20, Ground.data⟩ (by simp) (by rfl)
        obtain ⟨T2, rfl, hT2, hT3⟩ := h20 d20
        go_simp
        have hk := hK.out _ _ ⟨t107, t108, t109, t110, t111, t112, t113, t114, t115, t116, t117, t118, t119, t120, t121, t122, t123, t124, t125, t126, _, _, t129, rfl, HH, (keepV h0 (by decide)), (keepV h1 (by decide)), (keepV h2 (by decide)), (keepV h3 (by decide)), (keepV h4 (by decide)), (keepV h5 (by decide)), (keepV h6 (by decide)), (keepV h7 (by decide)), (keepV h8 (by decide)), (keepV h9 (by decide)), (keepV h10 (by decide)), (keepV h11 (by decide)), (keepV h12 (by decide)), (keepV h13 (by decide)), (keepV h14 (by decide)), (keepV h15 (by decide)), (keepV h16 (by decide)), (keepV h17 (by decide)), (keepV h18 (by decide)), (keepV h19 (by decide)), (keepV h20 (by decide)), (fun _ => rfl), (keepV h22 (by decide))⟩
        simp only [putL, Act.put, List.getElem_toArray, List.getElem_cons_zero, List.getElem_cons_succ, List.setIfInBounds_toArray, List.set_cons_zero, List.set_cons_succ] at hk
        exact hk
      case s22 =>
        intro listed ts wx hall hI K hK
        obtain ⟨t107, t108, t109, t110, t111, t112, t113, t114, t115, t116, t117, t118, t119, t120, t121, t122, t123, t124, t125, t126, t127, t128, t129, hts, HH, h0, h1, h2, h3, h4, h5, h6, h7, h8, h9, h10, h11, h12, h13, h14, h15, h16, h17, h18, h19, h20, h21, h22⟩ := hI
        rw [if_pos (by rfl)]
        subst hts
        simp only [putL, Act.put, List.getElem_toArray, List.getElem_cons_zero, List.getElem_cons_succ, List.setIfInBounds_toArray, List.set_cons_zero, List.set_cons_succ]
        go_simp
        have hk := hK.out _ _ ⟨t107, t108, t109, t110, t111, t112, t113, t114, t115, t116, t117, t118, t119, t120, t121, t122, t123, t124, t125, t126, t127, t128, _, rfl, HH, (keepV h0 (by decide)), (keepV h1 (by decide)), (keepV h2 (by decide)), (keepV h3 (by decide)), (keepV h4 (by decide)), (keepV h5 (by decide)), (keepV h6 (by decide)), (keepV h7 (by decide)), (keepV h8 (by decide)), (keepV h9 (by decide)), (keepV h10 (by decide)), (keepV h11 (by decide)), (keepV h12 (by decide)), (keepV h13 (by decide)), (keepV h14 (by decide)), (keepV h15 (by decide)), (keepV h16 (by decide)), (keepV h17 (by decide)), (keepV h18 (by decide)), (keepV h19 (by decide)), (keepV h20 (by decide)), (keepV h21 (by decide)), (fun _ => rfl)⟩
        simp only [putL, Act.put, List.getElem_toArray, List.getElem_cons_zero, List.getElem_cons_succ, List.setIfInBounds_toArray, List.set_cons_zero, List.set_cons_succ] at hk
        exact hk
    case hdone =>
      intro listed ts wx hA hI
      obtain ⟨t107, t108, t109, t110, t111, t112, t113, t114, t115, t116, t117, t118, t119, t120, t121, t122, t123, t124, t125, t126, t127, t128, t129, rfl, HH, h0, h1, h2, h3, h4, h5, h6, h7, h8, h9, h10, h11, h12, h13, h14, h15, h16, h17, h18, h19, h20, h21, h22⟩ := hI
      obtain ⟨T2, rfl, hT2, hT3⟩ := h20 (hA 20 (by decide))
      obtain rfl := h21 (hA 21 (by decide))
      obtain rfl := h22 (hA 22 (by decide))
      simp only [putL, Act.put, List.getElem_toArray, List.getElem_cons_zero, List.getElem_cons_succ, List.setIfInBounds_toArray, List.set_cons_zero, List.set_cons_succ]
      try go_wp2_with fail
      go_meet
      exact ⟨T2, rfl, rfl, rfl, hT2, hT3, HH⟩
  case rest =>
  obtain ⟨T2, rfl, rfl, rfl, hT2, HT7, HD7⟩ := hcut
  obtain ⟨w7, rfl⟩ : ∃ u : World, u = wc := ⟨_, rfl⟩
  clear HDZ LJ LB XJ HS9
  go_wp2_with fail
  go_loopw [129] (fun s wx => ∃ k : Nat, s = .int .i64 k ∧ k ≤ 5 ∧ Hid (Held wj W0.heap.size ra rn rc wx) ∧ Hid (Sb5 W0.heap.size wx T2)) (fun s _ => 5 - (intOf s).toNat)
  case atStart => exact ⟨0, by go_num, by omega, HD7, HT7⟩
  case round =>
  obtain ⟨k, rfl, hk, HDk, HTk⟩ := hrel
  obtain ⟨wk, rfl⟩ : ∃ u : World, u = wr := ⟨_, rfl⟩
  clear HD7 HT7
  by_cases hk3 : k < 5
  · have hki : (k : Int) < 5 := by omega
    obtain ⟨A, na, ca, hc, hI⟩ := HTk.out k hk3
    obtain ⟨r, hp, hd⟩ := hI.best
    have HP := Lib.hid hp
    have HDC := Lib.hid hd
    clear hp hd hI
    have HB8 := Lib.hid (Below.refl wk.heap.size wk)
    go_wp2_with fail
    clear hc
    refine (HP.out _ HB8.out).mono ?_
    rintro e y1 ⟨a1, n1, k1, rfl, hb, hr, hx⟩
    obtain ⟨v1, hw⟩ : ∃ w', y1.alloc (.cells #[.slice a1 n1 k1, .int .i64 r.p, .int .i64 r.inc] 38) = w' := ⟨_, rfl⟩
    have hz : Below wk.heap.size wk v1 := by rw [← hw]; exact hb.trans ((below_box _).mono hb.size)
    have HB8 := Lib.hid (HB8.out.trans (hz.mono HB8.out.size))
    have XV1 := Lib.hid (show Cur3 v1 y1.heap.size (.slice a1 n1 k1) (.int .i64 r.p) (.int .i64 r.inc) by rw [← hw]; exact Cur3.new _ _ _ _ _)
    have RV1 := Lib.hid (show RowZ v1 a1 n1 k1 r.zs by rw [← hw]; exact hr.under (below_box _))
    have HW := Lib.hid hw
    clear hw hz hb hr hx
    go_upto_region 25 with fail
    try rw [HW.out]
    obtain ⟨F1, hE⟩ : ∃ B, y1.heap.size = B := ⟨_, rfl⟩
    rw [hE] at XV1
    try rw [hE]
    clear HW hE
    go_wp2_with fail
    refine (HDC.out _ HB8.out).mono ?_
    rintro e y2 ⟨a2, n2, k2, rfl, hb, hr, hx⟩
    obtain ⟨v2, hw⟩ : ∃ w', y2.alloc (.cells #[.slice a2 n2 k2, .int .i64 r.p, .int .i64 r.inc] 38) = w' := ⟨_, rfl⟩
    have hz : Below v1.heap.size v1 v2 := by rw [← hw]; exact hb.trans ((below_box _).mono hb.size)
    have HB8 := Lib.hid (HB8.out.trans (hz.mono HB8.out.size))
    have XV2 := Lib.hid (show Cur3 v2 y2.heap.size (.slice a2 n2 k2) (.int .i64 r.p) (.int .i64 r.inc) by rw [← hw]; exact Cur3.new _ _ _ _ _)
    have RV2 := Lib.hid (show RowZ v2 a2 n2 k2 r.zs by rw [← hw]; exact hr.under (below_box _))
    have XV1 := Lib.hid (XV1.out.below hz)
    have RV1 := Lib.hid (RV1.out.under hz)
    have HW := Lib.hid hw
    clear hw hz hb hr hx
    go_upto_region 26 with fail
    try rw [HW.out]
    obtain ⟨F2, hE⟩ : ∃ B, y2.heap.size = B := ⟨_, rfl⟩
    rw [hE] at XV2
    try rw [hE]
    clear HW hE
    obtain ⟨d0, d1, d2, d3, d4, d5⟩ := XV1.out
    obtain ⟨e0, e1, e2, e3, e4, e5⟩ := XV2.out
    go_wp2_with fail
    clear d0 d1 d2 d3 d4 d5 e0 e1 e2 e3 e4 e5
    refine (rsame_any a1 n1 k1 r.zs r.p r.inc a2 n2 k2 r.zs r.p r.inc true (sameB_me _ _ _) _ RV1.out RV2.out).mono ?_
    rintro e y3 ⟨rfl, hb⟩
    have HB8 := Lib.hid (HB8.out.trans (hb.mono HB8.out.size))
    clear hb
    go_wp2_with fail
    go_roundw
    case rel => exact ⟨k + 1, by go_num, by omega, HDk.out.below HB8.out, HTk.out.under HB8.out⟩
    case measure => simp [intOf]; omega
  have hki : ¬ (k : Int) < 5 := by omega
  clear HTk
  have HBE := Lib.hid (show Below W.heap.size W wk from HBJ.out.trans (HDk.out.ap.below (by omega) HBJ.out.size))
  go_wp2_with fail
  refine (awake12 _).mono ?_
  rintro e z2 ⟨rfl, hb⟩
  have HBZ := Lib.hid (HBE.out.trans (hb.mono HBE.out.size))
  clear hb
  go_wp2_with fail
  go_ret
  exact ⟨rfl, HBZ.out⟩

end Go.Proofs.Ytjipmkgnndldpaa
