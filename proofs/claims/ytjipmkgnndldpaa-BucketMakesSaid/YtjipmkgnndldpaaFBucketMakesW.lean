/- The walk of BucketMakes. By the verifier's side. -/
import Derived.Test.YtjipmkgnndldpaaFBkJBkV
import Derived.Test.YtjipmkgnndldpaaFBkG
import Derived.Test.YtjipmkgnndldpaaFBkUBkC
namespace Go.Proofs.Ytjipmkgnndldpaa
open Go.RowKit
set_option linter.unusedSimpArgs false
set_option linter.unusedVariables false

/-- Two buckets' cells, and the reader. -/
abbrev SB2 (w6 : World) (b : Nat) (ra : Option Addr) (rn rc B C : Nat) (x0 x1 x2 x3 y0 y1 y2 y3 : Int) (u : World) : Prop :=
  u.cell? ⟨B, 0, none⟩ = some (.int .i64 x0) ∧ u.cell? ⟨B, 1, none⟩ = some (.int .i64 x1) ∧ u.cell? ⟨B, 2, none⟩ = some (.int .i64 x2) ∧ u.cell? ⟨B, 3, none⟩ = some (.int .i64 x3) ∧
  u.cell? ⟨C, 0, none⟩ = some (.int .i64 y0) ∧ u.cell? ⟨C, 1, none⟩ = some (.int .i64 y1) ∧ u.cell? ⟨C, 2, none⟩ = some (.int .i64 y2) ∧ u.cell? ⟨C, 3, none⟩ = some (.int .i64 y3) ∧ Hid (Held w6 b ra rn rc u)
theorem sb2_mk {w6 : World} {b : Nat} {ra : Option Addr} {rn rc B C : Nat} {x0 x1 x2 x3 y0 y1 y2 y3 : Int} {u : World} (h1 : Bk4 w6 B x0 x1 x2 x3) (k1 : B ≠ b) (h2 : Bk4 w6 C y0 y1 y2 y3) (k2 : C ≠ b) (h : Held w6 b ra rn rc u) : SB2 w6 b ra rn rc B C x0 x1 x2 x3 y0 y1 y2 y3 u := by
  have a1 := h1.apart h.ap k1
  have a2 := h2.apart h.ap k2
  exact ⟨a1.c0, a1.c1, a1.c2, a1.c3, a2.c0, a2.c1, a2.c2, a2.c3, h⟩
theorem sb2_of {w6 : World} {b : Nat} {ra : Option Addr} {rn rc B C : Nat} {x0 x1 x2 x3 y0 y1 y2 y3 : Int} {u : World} (h : SB2 w6 b ra rn rc B C x0 x1 x2 x3 y0 y1 y2 y3 u) : Held w6 b ra rn rc u := h.2.2.2.2.2.2.2.2.out

set_option maxRecDepth 100000 in
set_option maxHeartbeats 6400000 in
theorem bucketMakes_walk (W : World) (bn bd qn qd s1 s2 s3 : Int) (A9 : Option Addr) (n9 c9 : Nat) (hls : n9 ≤ 30 → ∀ b, W.heap.size ≤ b → IsB b W A9 n9 c9) (a : Option Addr) (n cap : Nat) (hrow : RowAt W a n cap) :
    Calls Try.prog 14 #[bucketV bn bd qn qd, stairV s1 s2 s3, .slice A9 n9 c9, .slice a n cap] W fun e w' => e = .returned (.bool true) ∧ Below W.heap.size W w' := by
  have HMK := Lib.hid make_rowB
  obtain ⟨W0, hw⟩ : ∃ w', (W.alloc (.cells #[.int .i64 bn, .int .i64 bd, .int .i64 qn, .int .i64 qd] 46)).alloc (.cells #[.int .i64 s1, .int .i64 s2, .int .i64 s3] 100) = w' := ⟨_, rfl⟩
  have hz : Below W.heap.size W W0 := by rw [← hw]; exact (below_box _).alloc (by simp) _
  have X0 := Lib.hid (show Bk4 W0 W.heap.size bn bd qn qd by rw [← hw]; exact (Bk4.new _ _ _ _ _ _).below (below_box _))
  have XS0 := Lib.hid (show Cur3 W0 (W.heap.size + 1) (.int .i64 s1) (.int .i64 s2) (.int .i64 s3) by rw [← hw]; exact Cur3.new2 _ _ _ _ _ _)
  have HR := Lib.hid (hrow.under hz)
  have HLS := Lib.hid (show n9 ≤ 30 → IsB W0.heap.size W0 A9 n9 c9 from fun h => (hls h _ hz.size).under hz)
  have HB0 := Lib.hid hz
  have HW := Lib.hid hw
  clear hrow hz hw hls
  go_enter Try.func14, Try.ntmps14
  go_upto_region 1 with fail
  rw [HW.out]
  clear HW
  by_cases h5 : 30 < n9
  · have h5i : (30 : Int) < (n9 : Int) := by omega
    go_wp2_with fail
    refine (awake11 _).mono ?_
    rintro e z2 ⟨rfl, hb⟩
    have HBZ := Lib.hid (HB0.out.trans (hb.mono HB0.out.size))
    clear hb
    go_wp2_with fail
    go_ret
    exact ⟨rfl, HBZ.out⟩
  have h5i : ¬ (30 : Int) < (n9 : Int) := by omega
  have L0 := Lib.hid (HLS.out (by omega))
  clear HLS
  go_wp2_with fail
  refine (new_any a n cap _ HR.out).mono ?_
  rintro e u1 ⟨rfl, hb1, hz1', ra, rn, rc, hs1⟩
  have hlW : W.heap.size + 1 < W0.heap.size := XS0.out.lt
  have hneP : W.heap.size ≠ W0.heap.size := by omega
  have hneS : W.heap.size + 1 ≠ W0.heap.size := by omega
  have X1 := Lib.hid (X0.out.below hb1)
  have XS1 := Lib.hid (XS0.out.below hb1)
  have L1 := Lib.hid (L0.out.under hb1)
  have HB1 := Lib.hid (HB0.out.trans (hb1.mono HB0.out.size))
  have HS1 := Lib.hid hs1
  have HD := Lib.hid (Held.start hs1)
  clear hb1 hz1' hs1 X0 XS0 HB0 L0 HR
  go_wp2_with fail
  refine (lratio_any W0.heap.size ra rn rc _ HS1.out).mono ?_
  rintro e u4 ⟨x7, y7, hp, rfl, hs, he⟩
  have HD4 := Lib.hid (HD.out.call hs he)
  clear hs he hp HD
  go_wp2_with fail
  refine (lratio_any W0.heap.size ra rn rc _ (HD4.out.at HS1.out)).mono ?_
  rintro e u5 ⟨x8, y8, hp, rfl, hs, he⟩
  have HD5 := Lib.hid (HD4.out.call hs he)
  clear hs he hp HD4
  obtain ⟨w6, hw⟩ : ∃ w', u5.alloc (.cells #[.int .i64 x7, .int .i64 y7, .int .i64 x8, .int .i64 y8] 46) = w' := ⟨_, rfl⟩
  have hz : Below u5.heap.size u5 w6 := by rw [← hw]; exact below_box _
  have HD6 := Lib.hid (HD5.out.below hz)
  have XC6 := Lib.hid (show Bk4 w6 u5.heap.size x7 y7 x8 y8 by rw [← hw]; exact Bk4.new _ _ _ _ _ _)
  have X6 := Lib.hid (X1.out.apart HD6.out.ap hneP)
  have XS6 := Lib.hid (XS1.out.apart HD6.out.ap hneS)
  have L6 := Lib.hid (L1.out.apart HD6.out.ap)
  have HS6 := Lib.hid (HD6.out.at HS1.out)
  have HBW6 := Lib.hid (show Below W.heap.size W w6 from HB1.out.trans (HD6.out.ap.below (by omega) (by have := HB1.out.size; omega)))
  have hCb : u5.heap.size ≠ W0.heap.size := by have := HD5.out.lt; omega
  have HW := Lib.hid hw
  clear hw hz HD5 HD6 X1 XS1 L1 HB1 HS1
  go_upto_region 5 with fail
  try rw [HW.out]
  obtain ⟨C, hC⟩ : ∃ B, u5.heap.size = B := ⟨_, rfl⟩
  rw [hC] at XC6 hCb
  try rw [hC]
  clear HW hC
  have HK := Lib.hid (fun u (h : Held w6 W0.heap.size ra rn rc u) => sb2_mk X6.out hneP XC6.out hCb h)
  have HK0 := Lib.hid (HK.out _ (Held.start HS6.out).drew)
  have HDS := Lib.hid (Held.start HS6.out)
  have hbl6 := HS6.out.lt
  go_cut [49, 50, 51] (fun s66 s67 s68 wx => ∃ (T : Nat) (bs : List Bkt), s66 = .slice (some ⟨T, 0, none⟩) 3 3 ∧ s67 = .int .i64 3 ∧ s68 = .int .i64 0 ∧ ¬ T = W0.heap.size ∧ bs.length = 3 ∧ Hid (RowB wx T 0 bs) ∧ Hid (Held w6 W0.heap.size ra rn rc wx))
  case first =>
    go_region_held3 (fun u => u.cell? ⟨W.heap.size, 0, none⟩ = some (.int .i64 bn) ∧ u.cell? ⟨W.heap.size, 1, none⟩ = some (.int .i64 bd) ∧ u.cell? ⟨W.heap.size, 2, none⟩ = some (.int .i64 qn) ∧ u.cell? ⟨W.heap.size, 3, none⟩ = some (.int .i64 qd) ∧ u.cell? ⟨C, 0, none⟩ = some (.int .i64 x7) ∧ u.cell? ⟨C, 1, none⟩ = some (.int .i64 y7) ∧ u.cell? ⟨C, 2, none⟩ = some (.int .i64 x8) ∧ u.cell? ⟨C, 3, none⟩ = some (.int .i64 y8) ∧ Hid (Held w6 W0.heap.size ra rn rc u))
      (first | with_reducible exact HK0.out | with_reducible exact HK.out _ ((sb2_of (by assumption)).call hs10 he10) | with_reducible exact HK.out _ ((sb2_of (by assumption)).call hs9 he9) | with_reducible exact HK.out _ ((sb2_of (by assumption)).alloc _) | with_reducible exact HK.out _ ((sb2_of (by assumption)).alloc _).drew | with_reducible exact HK.out _ (sb2_of (by assumption)).drew)
      (first | (go_at_call 82; (have HQ10 := hs9; (with_reducible refine (lratio_any W0.heap.size ra rn rc _ ((sb2_of (by assumption)).at HS6.out)).mono ?_); rintro e w10' ⟨x10, y10, hp10, rfl, hs10, he10⟩; have HK10 := Lib.hid ((sb2_of (by assumption)).call hs10 he10))) | (go_at_call 82; ((with_reducible refine (lratio_any W0.heap.size ra rn rc _ ((sb2_of (by assumption)).at HS6.out)).mono ?_); rintro e w9' ⟨x9, y9, hp9, rfl, hs9, he9⟩; have HK9 := Lib.hid ((sb2_of (by assumption)).call hs9 he9))))
    go_wp2_with fail
    go_meet
    have hH := HK10.out
    exact ⟨w10'.heap.size, [⟨bn, bd, qn, qd⟩, ⟨x7, y7, x8, y8⟩, ⟨x9, y9, x10, y10⟩], rfl, rfl, rfl, by have := hH.lt; omega, rfl, rowB_three w10' ⟨bn, bd, qn, qd⟩ ⟨x7, y7, x8, y8⟩ ⟨x9, y9, x10, y10⟩ _, hH.alloc _⟩
  case rest =>
  obtain ⟨T, bs, rfl, rfl, rfl, hTb, hbl, HT7, HD7⟩ := hcut
  obtain ⟨w7, rfl⟩ : ∃ u : World, u = wc := ⟨_, rfl⟩
  clear HK HK0
  go_wp2_with fail
  go_loopw [51] (fun s wx => ∃ q : Nat, s = .int .i64 q ∧ q ≤ 3 ∧ Hid (Held w6 W0.heap.size ra rn rc wx) ∧ Hid (RowB wx T 0 bs)) (fun s _ => 3 - (intOf s).toNat)
  case atStart => exact ⟨0, by go_num, by omega, HD7, HT7⟩
  case round =>
  obtain ⟨q, rfl, hq, HDq, HTq⟩ := hrel
  obtain ⟨wq, rfl⟩ : ∃ u : World, u = wr := ⟨_, rfl⟩
  clear HD7 HT7
  by_cases hq3 : q < 3
  · have hqi : (q : Int) < 3 := by omega
    obtain ⟨c, hc⟩ : ∃ c, bs[q]? = some c := ⟨_, List.getElem?_eq_getElem (by omega)⟩
    obtain ⟨l0, l1, l2, l3⟩ := HTq.out.at0 hc
    obtain ⟨r, hr⟩ : ∃ r : Rs, TokIs c.bn c.bd c.rn c.rd r.zs r.p r.inc r.c := by
      obtain ⟨zs, p, inc, ec, h⟩ := tokIs_ex c.bn c.bd c.rn c.rd
      exact ⟨⟨zs, p, inc, ec⟩, h⟩
    have HTK := Lib.hid hr
    clear hr hc
    obtain ⟨wb, hw⟩ : ∃ w', wq.alloc (.cells #[.int .i64 c.bn, .int .i64 c.bd, .int .i64 c.rn, .int .i64 c.rd] 46) = w' := ⟨_, rfl⟩
    have hz : Below wq.heap.size wq wb := by rw [← hw]; exact below_box _
    have XE := Lib.hid (show Bk4 wb wq.heap.size c.bn c.bd c.rn c.rd by rw [← hw]; exact Bk4.new _ _ _ _ _ _)
    have HB8 := Lib.hid hz
    have HW := Lib.hid hw
    clear hw hz
    go_upto_region 8 with fail
    try rw [HW.out]
    obtain ⟨EE, hE⟩ : ∃ B, wq.heap.size = B := ⟨_, rfl⟩
    rw [hE] at XE
    try rw [hE]
    clear HW hE l0 l1 l2 l3
    obtain ⟨d0, d1, d2, d3⟩ := XE.out
    go_wp2_with fail
    clear d0 d1 d2 d3
    refine (token_ce HTK.out _).mono ?_
    rintro e y1 ⟨a1, n1, k1, rfl, hb, hr, hx⟩
    obtain ⟨v1, hw⟩ : ∃ w', y1.alloc (.cells #[.slice a1 n1 k1, .int .i64 r.p, .int .i64 r.inc] 38) = w' := ⟨_, rfl⟩
    have hz : Below wb.heap.size wb v1 := by rw [← hw]; exact hb.trans ((below_box _).mono hb.size)
    have HB8 := Lib.hid (HB8.out.trans (hz.mono HB8.out.size))
    have XV1 := Lib.hid (show Cur3 v1 y1.heap.size (.slice a1 n1 k1) (.int .i64 r.p) (.int .i64 r.inc) by rw [← hw]; exact Cur3.new _ _ _ _ _)
    have RV1 := Lib.hid (show RowZ v1 a1 n1 k1 r.zs by rw [← hw]; exact hr.under (below_box _))
    have XE := Lib.hid (XE.out.below hz)
    have HW := Lib.hid hw
    clear hw hz hb hr hx
    go_upto_region 9 with fail
    try rw [HW.out]
    obtain ⟨F1, hE⟩ : ∃ B, y1.heap.size = B := ⟨_, rfl⟩
    rw [hE] at XV1
    try rw [hE]
    clear HW hE
    obtain ⟨d0, d1, d2, d3⟩ := XE.out
    go_wp2_with fail
    clear d0 d1 d2 d3
    refine (rtoken_ce HTK.out _).mono ?_
    rintro e y2 ⟨a2, n2, k2, rfl, hb, hr, hx⟩
    obtain ⟨v2, hw⟩ : ∃ w', y2.alloc (.cells #[.slice a2 n2 k2, .int .i64 r.p, .int .i64 r.inc] 38) = w' := ⟨_, rfl⟩
    have hz : Below v1.heap.size v1 v2 := by rw [← hw]; exact hb.trans ((below_box _).mono hb.size)
    have HB8 := Lib.hid (HB8.out.trans (hz.mono HB8.out.size))
    have XV2 := Lib.hid (show Cur3 v2 y2.heap.size (.slice a2 n2 k2) (.int .i64 r.p) (.int .i64 r.inc) by rw [← hw]; exact Cur3.new _ _ _ _ _)
    have RV2 := Lib.hid (show RowZ v2 a2 n2 k2 r.zs by rw [← hw]; exact hr.under (below_box _))
    have XV1 := Lib.hid (XV1.out.below hz)
    have RV1 := Lib.hid (RV1.out.under hz)
    have HW := Lib.hid hw
    clear hw hz hb hr hx
    go_upto_region 10 with fail
    try rw [HW.out]
    obtain ⟨F2, hE⟩ : ∃ B, y2.heap.size = B := ⟨_, rfl⟩
    rw [hE] at XV2
    try rw [hE]
    clear HW hE
    obtain ⟨d0, d1, d2, d3, d4, d5⟩ := XV1.out
    obtain ⟨e0, e1, e2, e3, e4, e5⟩ := XV2.out
    go_wp2_with fail
    clear d0 d1 d2 d3 d4 d5 e0 e1 e2 e3 e4 e5
    refine (rsame_any a1 n1 k1 r.zs r.p r.inc a2 n2 k2 r.zs r.p r.inc true (sameB_me _ _ _) _ RV1.out RV2.out).mono ?_
    rintro e y3 ⟨rfl, hb⟩
    have HB8 := Lib.hid (HB8.out.trans (hb.mono HB8.out.size))
    clear hb
    go_wp2_with fail
    go_roundw
    case rel => exact ⟨q + 1, by go_num, by omega, HDq.out.below HB8.out, HTq.out.under HB8.out⟩
    case measure => simp [intOf]; omega
  have hqi : ¬ (q : Int) < 3 := by omega
  clear HTq
  go_upto_region 13 with fail
  have HDZ := Lib.hid HDq.out
  go_cut [94, 95, 96] (fun s94 s95 s96 wx => ∃ T2 : Nat, s94 = .slice (some ⟨T2, 0, none⟩) 3 3 ∧ s95 = .int .i64 3 ∧ s96 = .int .i64 0 ∧ ¬ T2 = W0.heap.size ∧ Hid (St3 wx T2) ∧ Hid (Held w6 W0.heap.size ra rn rc wx))
  case first =>
    refine wp_region_inv 75 22 (fun ts listed wx => ∃ t75 t76 t77 t78 t79 t80 t81 t82 t83 t84 t85 t86 t87 t88 t89 t90 t91 t92 t93 t94 t95 t96 : Value, ts = [t75, t76, t77, t78, t79, t80, t81, t82, t83, t84, t85, t86, t87, t88, t89, t90, t91, t92, t93, t94, t95, t96] ∧ Hid (Held w6 W0.heap.size ra rn rc wx) ∧ (listed.getD 0 false = true → t75 = .agg #[.int .i64 s1, .int .i64 s2, .int .i64 s3]) ∧ (listed.getD 1 false = true → t76 = .pointer (some ⟨W0.heap.size, 0, none⟩)) ∧ (listed.getD 2 false = true → VI t77) ∧ (listed.getD 3 false = true → t78 = .pointer (some ⟨W0.heap.size, 0, none⟩)) ∧ (listed.getD 4 false = true → (∃ x : Int, t79 = .int .i64 x ∧ 0 ≤ x ∧ x < 12)) ∧ (listed.getD 5 false = true → VI t80) ∧ (listed.getD 6 false = true → t81 = .pointer (some ⟨W0.heap.size, 0, none⟩)) ∧ (listed.getD 7 false = true → VI t82) ∧ (listed.getD 8 false = true → VS t83) ∧ (listed.getD 9 false = true → t84 = .pointer (some ⟨W0.heap.size, 0, none⟩)) ∧ (listed.getD 10 false = true → VL W0.heap.size t85 wx) ∧ (listed.getD 11 false = true → VI t86) ∧ (listed.getD 12 false = true → t87 = .pointer (some ⟨W0.heap.size, 0, none⟩)) ∧ (listed.getD 13 false = true → VL W0.heap.size t88 wx) ∧ (listed.getD 14 false = true → VI t89) ∧ (listed.getD 15 false = true → t90 = .pointer (some ⟨W0.heap.size, 0, none⟩)) ∧ (listed.getD 16 false = true → VL W0.heap.size t91 wx) ∧ (listed.getD 17 false = true → VI t92) ∧ (listed.getD 18 false = true → VS t93) ∧ (listed.getD 19 false = true → VT W0.heap.size t94 wx) ∧ (listed.getD 20 false = true → t95 = .int .i64 3) ∧ (listed.getD 21 false = true → t96 = .int .i64 0)) (by kernel_rfl) (by kernel_rfl) ?h0 ?hstep ?hdone
    case h0 =>
      exact ⟨_, _, _, _, _, _, _, _, _, _, _, _, _, _, _, _, _, _, _, _, _, _, rfl, HDZ.out.drew, (fun h => absurd h (by decide)), (fun h => absurd h (by decide)), (fun h => absurd h (by decide)), (fun h => absurd h (by decide)), (fun h => absurd h (by decide)), (fun h => absurd h (by decide)), (fun h => absurd h (by decide)), (fun h => absurd h (by decide)), (fun h => absurd h (by decide)), (fun h => absurd h (by decide)), (fun h => absurd h (by decide)), (fun h => absurd h (by decide)), (fun h => absurd h (by decide)), (fun h => absurd h (by decide)), (fun h => absurd h (by decide)), (fun h => absurd h (by decide)), (fun h => absurd h (by decide)), (fun h => absurd h (by decide)), (fun h => absurd h (by decide)), (fun h => absurd h (by decide)), (fun h => absurd h (by decide)), (fun h => absurd h (by decide))⟩
    case hstep =>
      refine StepsI.cons (j := 1) rfl ?s0 (StepsI.cons (j := 2) rfl ?s1 (StepsI.cons (j := 3) rfl ?s2 (StepsI.cons (j := 4) rfl ?s3 (StepsI.cons (j := 5) rfl ?s4 (StepsI.cons (j := 6) rfl ?s5 (StepsI.cons (j := 7) rfl ?s6 (StepsI.cons (j := 8) rfl ?s7 (StepsI.cons (j := 9) rfl ?s8 (StepsI.cons (j := 10) rfl ?s9 (StepsI.cons (j := 11) rfl ?s10 (StepsI.cons (j := 12) rfl ?s11 (StepsI.cons (j := 13) rfl ?s12 (StepsI.cons (j := 14) rfl ?s13 (StepsI.cons (j := 15) rfl ?s14 (StepsI.cons (j := 16) rfl ?s15 (StepsI.cons (j := 17) rfl ?s16 (StepsI.cons (j := 18) rfl ?s17 (StepsI.cons (j := 19) rfl ?s18 (StepsI.cons (j := 20) rfl ?s19 (StepsI.cons (j := 21) rfl ?s20 (StepsI.cons (j := 22) rfl ?s21 (StepsI.nil))))))))))))))))))))))
      case s0 =>
        intro listed ts wx hall hI K hK
        obtain ⟨t75, t76, t77, t78, t79, t80, t81, t82, t83, t84, t85, t86, t87, t88, t89, t90, t91, t92, t93, t94, t95, t96, hts, HH, h0, h1, h2, h3, h4, h5, h6, h7, h8, h9, h10, h11, h12, h13, h14, h15, h16, h17, h18, h19, h20, h21⟩ := hI
        rw [if_pos (by rfl)]
        subst hts
        simp only [putL, Act.put, List.getElem_toArray, List.getElem_cons_zero, List.getElem_cons_succ, List.setIfInBounds_toArray, List.set_cons_zero, List.set_cons_succ]
        obtain ⟨q0, q1, q2, _, _, _⟩ := XS6.out.apart HH.out.ap hneS
        go_simp
        have hk := hK.out _ _ ⟨_, t76, t77, t78, t79, t80, t81, t82, t83, t84, t85, t86, t87, t88, t89, t90, t91, t92, t93, t94, t95, t96, rfl, HH, (fun _ => rfl), (keepV h1 (by decide)), (keepV h2 (by decide)), (keepV h3 (by decide)), (keepV h4 (by decide)), (keepV h5 (by decide)), (keepV h6 (by decide)), (keepV h7 (by decide)), (keepV h8 (by decide)), (keepV h9 (by decide)), (keepV h10 (by decide)), (keepV h11 (by decide)), (keepV h12 (by decide)), (keepV h13 (by decide)), (keepV h14 (by decide)), (keepV h15 (by decide)), (keepV h16 (by decide)), (keepV h17 (by decide)), (keepV h18 (by decide)), (keepV h19 (by decide)), (keepV h20 (by decide)), (keepV h21 (by decide))⟩
        simp only [putL, Act.put, List.getElem_toArray, List.getElem_cons_zero, List.getElem_cons_succ, List.setIfInBounds_toArray, List.set_cons_zero, List.set_cons_succ] at hk
        exact hk
      case s1 =>
        intro listed ts wx hall hI K hK
        obtain ⟨t75, t76, t77, t78, t79, t80, t81, t82, t83, t84, t85, t86, t87, t88, t89, t90, t91, t92, t93, t94, t95, t96, hts, HH, h0, h1, h2, h3, h4, h5, h6, h7, h8, h9, h10, h11, h12, h13, h14, h15, h16, h17, h18, h19, h20, h21⟩ := hI
        rw [if_pos (by rfl)]
        subst hts
        simp only [putL, Act.put, List.getElem_toArray, List.getElem_cons_zero, List.getElem_cons_succ, List.setIfInBounds_toArray, List.set_cons_zero, List.set_cons_succ]
        go_simp
        have hk := hK.out _ _ ⟨t75, _, t77, t78, t79, t80, t81, t82, t83, t84, t85, t86, t87, t88, t89, t90, t91, t92, t93, t94, t95, t96, rfl, HH, (keepV h0 (by decide)), (fun _ => rfl), (keepV h2 (by decide)), (keepV h3 (by decide)), (keepV h4 (by decide)), (keepV h5 (by decide)), (keepV h6 (by decide)), (keepV h7 (by decide)), (keepV h8 (by decide)), (keepV h9 (by decide)), (keepV h10 (by decide)), (keepV h11 (by decide)), (keepV h12 (by decide)), (keepV h13 (by decide)), (keepV h14 (by decide)), (keepV h15 (by decide)), (keepV h16 (by decide)), (keepV h17 (by decide)), (keepV h18 (by decide)), (keepV h19 (by decide)), (keepV h20 (by decide)), (keepV h21 (by decide))⟩
        simp only [putL, Act.put, List.getElem_toArray, List.getElem_cons_zero, List.getElem_cons_succ, List.setIfInBounds_toArray, List.set_cons_zero, List.set_cons_succ] at hk
        exact hk
      case s2 =>
        intro listed ts wx hall hI K hK
        obtain ⟨t75, t76, t77, t78, t79, t80, t81, t82, t83, t84, t85, t86, t87, t88, t89, t90, t91, t92, t93, t94, t95, t96, hts, HH, h0, h1, h2, h3, h4, h5, h6, h7, h8, h9, h10, h11, h12, h13, h14, h15, h16, h17, h18, h19, h20, h21⟩ := hI
        rw [if_pos (by rfl)]
        subst hts
        simp only [putL, Act.put, List.getElem_toArray, List.getElem_cons_zero, List.getElem_cons_succ, List.setIfInBounds_toArray, List.set_cons_zero, List.set_cons_succ]
        have d1 : listed.getD 1 false = true := hall ⟨1, Ground.data⟩ (by simp) (by rfl)
        obtain rfl := h1 d1
        go_simp
        with_reducible refine (n_any 50 (by omega) (by omega) W0.heap.size ra rn rc _ (HH.out.at HS6.out)).mono ?_
        rintro e w9 ⟨r, hr, rfl, hs, he⟩
        have HH2 := Lib.hid (HH.out.call hs he.apart)
        have hap := he.apart
        have hk := hK.out _ _ ⟨t75, _, .int .i64 r, t78, t79, t80, t81, t82, t83, t84, t85, t86, t87, t88, t89, t90, t91, t92, t93, t94, t95, t96, rfl, HH2, (keepV h0 (by decide)), (keepV h1 (by decide)), (fun _ => ⟨_, rfl⟩), (keepV h3 (by decide)), (keepV h4 (by decide)), (keepV h5 (by decide)), (keepV h6 (by decide)), (keepV h7 (by decide)), (keepV h8 (by decide)), (keepV h9 (by decide)), (fun hd => (keepV h10 (by decide) hd).apart hap), (keepV h11 (by decide)), (keepV h12 (by decide)), (fun hd => (keepV h13 (by decide) hd).apart hap), (keepV h14 (by decide)), (keepV h15 (by decide)), (fun hd => (keepV h16 (by decide) hd).apart hap), (keepV h17 (by decide)), (keepV h18 (by decide)), (fun hd => (keepV h19 (by decide) hd).apart hap), (keepV h20 (by decide)), (keepV h21 (by decide))⟩
        simp only [putL, Act.put, List.getElem_toArray, List.getElem_cons_zero, List.getElem_cons_succ, List.setIfInBounds_toArray, List.set_cons_zero, List.set_cons_succ] at hk
        exact hk
      case s3 =>
        intro listed ts wx hall hI K hK
        obtain ⟨t75, t76, t77, t78, t79, t80, t81, t82, t83, t84, t85, t86, t87, t88, t89, t90, t91, t92, t93, t94, t95, t96, hts, HH, h0, h1, h2, h3, h4, h5, h6, h7, h8, h9, h10, h11, h12, h13, h14, h15, h16, h17, h18, h19, h20, h21⟩ := hI
        rw [if_pos (by rfl)]
        subst hts
        simp only [putL, Act.put, List.getElem_toArray, List.getElem_cons_zero, List.getElem_cons_succ, List.setIfInBounds_toArray, List.set_cons_zero, List.set_cons_succ]
        go_simp
        have hk := hK.out _ _ ⟨t75, t76, t77, _, t79, t80, t81, t82, t83, t84, t85, t86, t87, t88, t89, t90, t91, t92, t93, t94, t95, t96, rfl, HH, (keepV h0 (by decide)), (keepV h1 (by decide)), (keepV h2 (by decide)), (fun _ => rfl), (keepV h4 (by decide)), (keepV h5 (by decide)), (keepV h6 (by decide)), (keepV h7 (by decide)), (keepV h8 (by decide)), (keepV h9 (by decide)), (keepV h10 (by decide)), (keepV h11 (by decide)), (keepV h12 (by decide)), (keepV h13 (by decide)), (keepV h14 (by decide)), (keepV h15 (by decide)), (keepV h16 (by decide)), (keepV h17 (by decide)), (keepV h18 (by decide)), (keepV h19 (by decide)), (keepV h20 (by decide)), (keepV h21 (by decide))⟩
        simp only [putL, Act.put, List.getElem_toArray, List.getElem_cons_zero, List.getElem_cons_succ, List.setIfInBounds_toArray, List.set_cons_zero, List.set_cons_succ] at hk
        exact hk
      case s4 =>
        intro listed ts wx hall hI K hK
        obtain ⟨t75, t76, t77, t78, t79, t80, t81, t82, t83, t84, t85, t86, t87, t88, t89, t90, t91, t92, t93, t94, t95, t96, hts, HH, h0, h1, h2, h3, h4, h5, h6, h7, h8, h9, h10, h11, h12, h13, h14, h15, h16, h17, h18, h19, h20, h21⟩ := hI
        rw [if_pos (by rfl)]
        subst hts
        simp only [putL, Act.put, List.getElem_toArray, List.getElem_cons_zero, List.getElem_cons_succ, List.setIfInBounds_toArray, List.set_cons_zero, List.set_cons_succ]
        have d3 : listed.getD 3 false = true := hall ⟨3, Ground.data⟩ (by simp) (by rfl)
        obtain rfl := h3 d3
        go_simp
        with_reducible refine (n_any 12 (by omega) (by omega) W0.heap.size ra rn rc _ (HH.out.at HS6.out)).mono ?_
        rintro e w9 ⟨r, hr, rfl, hs, he⟩
        have HH2 := Lib.hid (HH.out.call hs he.apart)
        have hap := he.apart
        have hk := hK.out _ _ ⟨t75, t76, t77, _, .int .i64 r, t80, t81, t82, t83, t84, t85, t86, t87, t88, t89, t90, t91, t92, t93, t94, t95, t96, rfl, HH2, (keepV h0 (by decide)), (keepV h1 (by decide)), (keepV h2 (by decide)), (keepV h3 (by decide)), (fun _ => ⟨_, rfl, hr.1, hr.2⟩), (keepV h5 (by decide)), (keepV h6 (by decide)), (keepV h7 (by decide)), (keepV h8 (by decide)), (keepV h9 (by decide)), (fun hd => (keepV h10 (by decide) hd).apart hap), (keepV h11 (by decide)), (keepV h12 (by decide)), (fun hd => (keepV h13 (by decide) hd).apart hap), (keepV h14 (by decide)), (keepV h15 (by decide)), (fun hd => (keepV h16 (by decide) hd).apart hap), (keepV h17 (by decide)), (keepV h18 (by decide)), (fun hd => (keepV h19 (by decide) hd).apart hap), (keepV h20 (by decide)), (keepV h21 (by decide))⟩
        simp only [putL, Act.put, List.getElem_toArray, List.getElem_cons_zero, List.getElem_cons_succ, List.setIfInBounds_toArray, List.set_cons_zero, List.set_cons_succ] at hk
        exact hk
      case s5 =>
        intro listed ts wx hall hI K hK
        obtain ⟨t75, t76, t77, t78, t79, t80, t81, t82, t83, t84, t85, t86, t87, t88, t89, t90, t91, t92, t93, t94, t95, t96, hts, HH, h0, h1, h2, h3, h4, h5, h6, h7, h8, h9, h10, h11, h12, h13, h14, h15, h16, h17, h18, h19, h20, h21⟩ := hI
        rw [if_pos (by rfl)]
        subst hts
        simp only [putL, Act.put, List.getElem_toArray, List.getElem_cons_zero, List.getElem_cons_succ, List.setIfInBounds_toArray, List.set_cons_zero, List.set_cons_succ]
        have d4 : listed.getD 4 false = true := hall ⟨4, Ground.data⟩ (by simp) (by rfl)
        obtain ⟨x, rfl, hx0, hx1⟩ := h4 d4
        have hwx : IntKind.i64.wrap (1 + x) = 1 + x := IntWalk.i64_in _ ⟨by omega, by omega⟩
        go_simp
        have hk := hK.out _ _ ⟨t75, t76, t77, t78, _, .int .i64 (1 + x), t81, t82, t83, t84, t85, t86, t87, t88, t89, t90, t91, t92, t93, t94, t95, t96, rfl, HH, (keepV h0 (by decide)), (keepV h1 (by decide)), (keepV h2 (by decide)), (keepV h3 (by decide)), (keepV h4 (by decide)), (fun _ => ⟨_, rfl⟩), (keepV h6 (by decide)), (keepV h7 (by decide)), (keepV h8 (by decide)), (keepV h9 (by decide)), (keepV h10 (by decide)), (keepV h11 (by decide)), (keepV h12 (by decide)), (keepV h13 (by decide)), (keepV h14 (by decide)), (keepV h15 (by decide)), (keepV h16 (by decide)), (keepV h17 (by decide)), (keepV h18 (by decide)), (keepV h19 (by decide)), (keepV h20 (by decide)), (keepV h21 (by decide))⟩
        simp only [putL, Act.put, List.getElem_toArray, List.getElem_cons_zero, List.getElem_cons_succ, List.setIfInBounds_toArray, List.set_cons_zero, List.set_cons_succ] at hk
        exact hk
      case s6 =>
        intro listed ts wx hall hI K hK
        obtain ⟨t75, t76, t77, t78, t79, t80, t81, t82, t83, t84, t85, t86, t87, t88, t89, t90, t91, t92, t93, t94, t95, t96, hts, HH, h0, h1, h2, h3, h4, h5, h6, h7, h8, h9, h10, h11, h12, h13, h14, h15, h16, h17, h18, h19, h20, h21⟩ := hI
        rw [if_pos (by rfl)]
        subst hts
        simp only [putL, Act.put, List.getElem_toArray, List.getElem_cons_zero, List.getElem_cons_succ, List.setIfInBounds_toArray, List.set_cons_zero, List.set_cons_succ]
        go_simp
        have hk := hK.out _ _ ⟨t75, t76, t77, t78, t79, t80, _, t82, t83, t84, t85, t86, t87, t88, t89, t90, t91, t92, t93, t94, t95, t96, rfl, HH, (keepV h0 (by decide)), (keepV h1 (by decide)), (keepV h2 (by decide)), (keepV h3 (by decide)), (keepV h4 (by decide)), (keepV h5 (by decide)), (fun _ => rfl), (keepV h7 (by decide)), (keepV h8 (by decide)), (keepV h9 (by decide)), (keepV h10 (by decide)), (keepV h11 (by decide)), (keepV h12 (by decide)), (keepV h13 (by decide)), (keepV h14 (by decide)), (keepV h15 (by decide)), (keepV h16 (by decide)), (keepV h17 (by decide)), (keepV h18 (by decide)), (keepV h19 (by decide)), (keepV h20 (by decide)), (keepV h21 (by decide))⟩
        simp only [putL, Act.put, List.getElem_toArray, List.getElem_cons_zero, List.getElem_cons_succ, List.setIfInBounds_toArray, List.set_cons_zero, List.set_cons_succ] at hk
        exact hk
      case s7 =>
        intro listed ts wx hall hI K hK
        obtain ⟨t75, t76, t77, t78, t79, t80, t81, t82, t83, t84, t85, t86, t87, t88, t89, t90, t91, t92, t93, t94, t95, t96, hts, HH, h0, h1, h2, h3, h4, h5, h6, h7, h8, h9, h10, h11, h12, h13, h14, h15, h16, h17, h18, h19, h20, h21⟩ := hI
        rw [if_pos (by rfl)]
        subst hts
        simp only [putL, Act.put, List.getElem_toArray, List.getElem_cons_zero, List.getElem_cons_succ, List.setIfInBounds_toArray, List.set_cons_zero, List.set_cons_succ]
        have d6 : listed.getD 6 false = true := hall ⟨6, Ground.data⟩ (by simp) (by rfl)
        obtain rfl := h6 d6
        go_simp
        with_reducible refine (n_any 20 (by omega) (by omega) W0.heap.size ra rn rc _ (HH.out.at HS6.out)).mono ?_
        rintro e w9 ⟨r, hr, rfl, hs, he⟩
        have HH2 := Lib.hid (HH.out.call hs he.apart)
        have hap := he.apart
        have hk := hK.out _ _ ⟨t75, t76, t77, t78, t79, t80, _, .int .i64 r, t83, t84, t85, t86, t87, t88, t89, t90, t91, t92, t93, t94, t95, t96, rfl, HH2, (keepV h0 (by decide)), (keepV h1 (by decide)), (keepV h2 (by decide)), (keepV h3 (by decide)), (keepV h4 (by decide)), (keepV h5 (by decide)), (keepV h6 (by decide)), (fun _ => ⟨_, rfl⟩), (keepV h8 (by decide)), (keepV h9 (by decide)), (fun hd => (keepV h10 (by decide) hd).apart hap), (keepV h11 (by decide)), (keepV h12 (by decide)), (fun hd => (keepV h13 (by decide) hd).apart hap), (keepV h14 (by decide)), (keepV h15 (by decide)), (fun hd => (keepV h16 (by decide) hd).apart hap), (keepV h17 (by decide)), (keepV h18 (by decide)), (fun hd => (keepV h19 (by decide) hd).apart hap), (keepV h20 (by decide)), (keepV h21 (by decide))⟩
        simp only [putL, Act.put, List.getElem_toArray, List.getElem_cons_zero, List.getElem_cons_succ, List.setIfInBounds_toArray, List.set_cons_zero, List.set_cons_succ] at hk
        exact hk
      case s8 =>
        intro listed ts wx hall hI K hK
        obtain ⟨t75, t76, t77, t78, t79, t80, t81, t82, t83, t84, t85, t86, t87, t88, t89, t90, t91, t92, t93, t94, t95, t96, hts, HH, h0, h1, h2, h3, h4, h5, h6, h7, h8, h9, h10, h11, h12, h13, h14, h15, h16, h17, h18, h19, h20, h21⟩ := hI
        rw [if_pos (by rfl)]
        subst hts
        simp only [putL, Act.put, List.getElem_toArray, List.getElem_cons_zero, List.getElem_cons_succ, List.setIfInBounds_toArray, List.set_cons_zero, List.set_cons_succ]
        have d2 : listed.getD 2 false = true := hall ⟨2, Ground.data⟩ (by simp) (by rfl)
        obtain ⟨x, rfl⟩ := h2 d2
        have d5 : listed.getD 5 false = true := hall ⟨5, Ground.data⟩ (by simp) (by rfl)
        obtain ⟨y, rfl⟩ := h5 d5
        have d7 : listed.getD 7 false = true := hall ⟨7, Ground.data⟩ (by simp) (by rfl)
        obtain ⟨z, rfl⟩ := h7 d7
        go_simp
        have hk := hK.out _ _ ⟨t75, t76, _, t78, t79, _, t81, _, .agg #[.int .i64 x, .int .i64 y, .int .i64 z], t84, t85, t86, t87, t88, t89, t90, t91, t92, t93, t94, t95, t96, rfl, HH, (keepV h0 (by decide)), (keepV h1 (by decide)), (keepV h2 (by decide)), (keepV h3 (by decide)), (keepV h4 (by decide)), (keepV h5 (by decide)), (keepV h6 (by decide)), (keepV h7 (by decide)), (fun _ => ⟨_, _, _, rfl⟩), (keepV h9 (by decide)), (keepV h10 (by decide)), (keepV h11 (by decide)), (keepV h12 (by decide)), (keepV h13 (by decide)), (keepV h14 (by decide)), (keepV h15 (by decide)), (keepV h16 (by decide)), (keepV h17 (by decide)), (keepV h18 (by decide)), (keepV h19 (by decide)), (keepV h20 (by decide)), (keepV h21 (by decide))⟩
        simp only [putL, Act.put, List.getElem_toArray, List.getElem_cons_zero, List.getElem_cons_succ, List.setIfInBounds_toArray, List.set_cons_zero, List.set_cons_succ] at hk
        exact hk
      case s9 =>
        intro listed ts wx hall hI K hK
        obtain ⟨t75, t76, t77, t78, t79, t80, t81, t82, t83, t84, t85, t86, t87, t88, t89, t90, t91, t92, t93, t94, t95, t96, hts, HH, h0, h1, h2, h3, h4, h5, h6, h7, h8, h9, h10, h11, h12, h13, h14, h15, h16, h17, h18, h19, h20, h21⟩ := hI
        rw [if_pos (by rfl)]
        subst hts
        simp only [putL, Act.put, List.getElem_toArray, List.getElem_cons_zero, List.getElem_cons_succ, List.setIfInBounds_toArray, List.set_cons_zero, List.set_cons_succ]
        go_simp
        have hk := hK.out _ _ ⟨t75, t76, t77, t78, t79, t80, t81, t82, t83, _, t85, t86, t87, t88, t89, t90, t91, t92, t93, t94, t95, t96, rfl, HH, (keepV h0 (by decide)), (keepV h1 (by decide)), (keepV h2 (by decide)), (keepV h3 (by decide)), (keepV h4 (by decide)), (keepV h5 (by decide)), (keepV h6 (by decide)), (keepV h7 (by decide)), (keepV h8 (by decide)), (fun _ => rfl), (keepV h10 (by decide)), (keepV h11 (by decide)), (keepV h12 (by decide)), (keepV h13 (by decide)), (keepV h14 (by decide)), (keepV h15 (by decide)), (keepV h16 (by decide)), (keepV h17 (by decide)), (keepV h18 (by decide)), (keepV h19 (by decide)), (keepV h20 (by decide)), (keepV h21 (by decide))⟩
        simp only [putL, Act.put, List.getElem_toArray, List.getElem_cons_zero, List.getElem_cons_succ, List.setIfInBounds_toArray, List.set_cons_zero, List.set_cons_succ] at hk
        exact hk
      case s10 =>
        intro listed ts wx hall hI K hK
        obtain ⟨t75, t76, t77, t78, t79, t80, t81, t82, t83, t84, t85, t86, t87, t88, t89, t90, t91, t92, t93, t94, t95, t96, hts, HH, h0, h1, h2, h3, h4, h5, h6, h7, h8, h9, h10, h11, h12, h13, h14, h15, h16, h17, h18, h19, h20, h21⟩ := hI
        rw [if_pos (by rfl)]
        subst hts
        simp only [putL, Act.put, List.getElem_toArray, List.getElem_cons_zero, List.getElem_cons_succ, List.setIfInBounds_toArray, List.set_cons_zero, List.set_cons_succ]
        have hlt := HH.out.lt
        go_simp
        have HH2 := Lib.hid (HH.out.alloc (.cells #[.int .i64 0, .int .i64 (-1), .int .i64 1073741824, .int .i64 1073741825, .int .i64 7] 3))
        have hap := (Apart.refl W0.heap.size wx).alloc (.cells #[.int .i64 0, .int .i64 (-1), .int .i64 1073741824, .int .i64 1073741825, .int .i64 7] 3)
        have hk := hK.out _ _ ⟨t75, t76, t77, t78, t79, t80, t81, t82, t83, t84, _, t86, t87, t88, t89, t90, t91, t92, t93, t94, t95, t96, rfl, HH2, (keepV h0 (by decide)), (keepV h1 (by decide)), (keepV h2 (by decide)), (keepV h3 (by decide)), (keepV h4 (by decide)), (keepV h5 (by decide)), (keepV h6 (by decide)), (keepV h7 (by decide)), (keepV h8 (by decide)), (keepV h9 (by decide)), (fun _ => ⟨wx.heap.size, rfl, Nat.ne_of_gt hlt, list_newP In64 wx [0, (-1), 1073741824, 1073741825, 7] 3 (by decide)⟩), (keepV h11 (by decide)), (keepV h12 (by decide)), (fun hd => (keepV h13 (by decide) hd).apart hap), (keepV h14 (by decide)), (keepV h15 (by decide)), (fun hd => (keepV h16 (by decide) hd).apart hap), (keepV h17 (by decide)), (keepV h18 (by decide)), (fun hd => (keepV h19 (by decide) hd).apart hap), (keepV h20 (by decide)), (keepV h21 (by decide))⟩
        simp only [putL, Act.put, List.getElem_toArray, List.getElem_cons_zero, List.getElem_cons_succ, List.setIfInBounds_toArray, List.set_cons_zero, List.set_cons_succ] at hk
        exact hk
      case s11 =>
        intro listed ts wx hall hI K hK
        obtain ⟨t75, t76, t77, t78, t79, t80, t81, t82, t83, t84, t85, t86, t87, t88, t89, t90, t91, t92, t93, t94, t95, t96, hts, HH, h0, h1, h2, h3, h4, h5, h6, h7, h8, h9, h10, h11, h12, h13, h14, h15, h16, h17, h18, h19, h20, h21⟩ := hI
        rw [if_pos (by rfl)]
        subst hts
        simp only [putL, Act.put, List.getElem_toArray, List.getElem_cons_zero, List.getElem_cons_succ, List.setIfInBounds_toArray, List.set_cons_zero, List.set_cons_succ]
        have d9 : listed.getD 9 false = true := hall ⟨9, Ground.data⟩ (by simp) (by rfl)
        obtain rfl := h9 d9
        have d10 : listed.getD 10 false = true := hall ⟨10, Ground.data⟩ (by simp) (by rfl)
        obtain ⟨G, rfl, hG, hGc⟩ := h10 d10
        go_simp
        with_reducible refine (pick_of In64 (fun _ h => h) G 5 5 (by omega) (by omega) W0.heap.size hG ra rn rc _ (HH.out.at HS6.out) hGc).mono ?_
        rintro e w9 ⟨z, hz, rfl, hs, hap⟩
        have HH2 := Lib.hid (HH.out.call hs hap)
        have hk := hK.out _ _ ⟨t75, t76, t77, t78, t79, t80, t81, t82, t83, _, _, .int .i64 z, t87, t88, t89, t90, t91, t92, t93, t94, t95, t96, rfl, HH2, (keepV h0 (by decide)), (keepV h1 (by decide)), (keepV h2 (by decide)), (keepV h3 (by decide)), (keepV h4 (by decide)), (keepV h5 (by decide)), (keepV h6 (by decide)), (keepV h7 (by decide)), (keepV h8 (by decide)), (keepV h9 (by decide)), (fun hd => (keepV h10 (by decide) hd).apart hap), (fun _ => ⟨_, rfl⟩), (keepV h12 (by decide)), (fun hd => (keepV h13 (by decide) hd).apart hap), (keepV h14 (by decide)), (keepV h15 (by decide)), (fun hd => (keepV h16 (by decide) hd).apart hap), (keepV h17 (by decide)), (keepV h18 (by decide)), (fun hd => (keepV h19 (by decide) hd).apart hap), (keepV h20 (by decide)), (keepV h21 (by decide))⟩
        simp only [putL, Act.put, List.getElem_toArray, List.getElem_cons_zero, List.getElem_cons_succ, List.setIfInBounds_toArray, List.set_cons_zero, List.set_cons_succ] at hk
        exact hk
      case s12 =>
        intro listed ts wx hall hI K hK
        obtain ⟨t75, t76, t77, t78, t79, t80, t81, t82, t83, t84, t85, t86, t87, t88, t89, t90, t91, t92, t93, t94, t95, t96, hts, HH, h0, h1, h2, h3, h4, h5, h6, h7, h8, h9, h10, h11, h12, h13, h14, h15, h16, h17, h18, h19, h20, h21⟩ := hI
        rw [if_pos (by rfl)]
        subst hts
        simp only [putL, Act.put, List.getElem_toArray, List.getElem_cons_zero, List.getElem_cons_succ, List.setIfInBounds_toArray, List.set_cons_zero, List.set_cons_succ]
        go_simp
        have hk := hK.out _ _ ⟨t75, t76, t77, t78, t79, t80, t81, t82, t83, t84, t85, t86, _, t88, t89, t90, t91, t92, t93, t94, t95, t96, rfl, HH, (keepV h0 (by decide)), (keepV h1 (by decide)), (keepV h2 (by decide)), (keepV h3 (by decide)), (keepV h4 (by decide)), (keepV h5 (by decide)), (keepV h6 (by decide)), (keepV h7 (by decide)), (keepV h8 (by decide)), (keepV h9 (by decide)), (keepV h10 (by decide)), (keepV h11 (by decide)), (fun _ => rfl), (keepV h13 (by decide)), (keepV h14 (by decide)), (keepV h15 (by decide)), (keepV h16 (by decide)), (keepV h17 (by decide)), (keepV h18 (by decide)), (keepV h19 (by decide)), (keepV h20 (by decide)), (keepV h21 (by decide))⟩
        simp only [putL, Act.put, List.getElem_toArray, List.getElem_cons_zero, List.getElem_cons_succ, List.setIfInBounds_toArray, List.set_cons_zero, List.set_cons_succ] at hk
        exact hk
      case s13 =>
        intro listed ts wx hall hI K hK
        obtain ⟨t75, t76, t77, t78, t79, t80, t81, t82, t83, t84, t85, t86, t87, t88, t89, t90, t91, t92, t93, t94, t95, t96, hts, HH, h0, h1, h2, h3, h4, h5, h6, h7, h8, h9, h10, h11, h12, h13, h14, h15, h16, h17, h18, h19, h20, h21⟩ := hI
        rw [if_pos (by rfl)]
        subst hts
        simp only [putL, Act.put, List.getElem_toArray, List.getElem_cons_zero, List.getElem_cons_succ, List.setIfInBounds_toArray, List.set_cons_zero, List.set_cons_succ]
        have hlt := HH.out.lt
        go_simp
        have HH2 := Lib.hid (HH.out.alloc (.cells #[.int .i64 0, .int .i64 1, .int .i64 120, .int .i64 121, .int .i64 5] 3))
        have hap := (Apart.refl W0.heap.size wx).alloc (.cells #[.int .i64 0, .int .i64 1, .int .i64 120, .int .i64 121, .int .i64 5] 3)
        have hk := hK.out _ _ ⟨t75, t76, t77, t78, t79, t80, t81, t82, t83, t84, t85, t86, t87, _, t89, t90, t91, t92, t93, t94, t95, t96, rfl, HH2, (keepV h0 (by decide)), (keepV h1 (by decide)), (keepV h2 (by decide)), (keepV h3 (by decide)), (keepV h4 (by decide)), (keepV h5 (by decide)), (keepV h6 (by decide)), (keepV h7 (by decide)), (keepV h8 (by decide)), (keepV h9 (by decide)), (fun hd => (keepV h10 (by decide) hd).apart hap), (keepV h11 (by decide)), (keepV h12 (by decide)), (fun _ => ⟨wx.heap.size, rfl, Nat.ne_of_gt hlt, list_newP In64 wx [0, 1, 120, 121, 5] 3 (by decide)⟩), (keepV h14 (by decide)), (keepV h15 (by decide)), (fun hd => (keepV h16 (by decide) hd).apart hap), (keepV h17 (by decide)), (keepV h18 (by decide)), (fun hd => (keepV h19 (by decide) hd).apart hap), (keepV h20 (by decide)), (keepV h21 (by decide))⟩
        simp only [putL, Act.put, List.getElem_toArray, List.getElem_cons_zero, List.getElem_cons_succ, List.setIfInBounds_toArray, List.set_cons_zero, List.set_cons_succ] at hk
        exact hk
      case s14 =>
        intro listed ts wx hall hI K hK
        obtain ⟨t75, t76, t77, t78, t79, t80, t81, t82, t83, t84, t85, t86, t87, t88, t89, t90, t91, t92, t93, t94, t95, t96, hts, HH, h0, h1, h2, h3, h4, h5, h6, h7, h8, h9, h10, h11, h12, h13, h14, h15, h16, h17, h18, h19, h20, h21⟩ := hI
        rw [if_pos (by rfl)]
        subst hts
        simp only [putL, Act.put, List.getElem_toArray, List.getElem_cons_zero, List.getElem_cons_succ, List.setIfInBounds_toArray, List.set_cons_zero, List.set_cons_succ]
        have d12 : listed.getD 12 false = true := hall ⟨12, Ground.data⟩ (by simp) (by rfl)
        obtain rfl := h12 d12
        have d13 : listed.getD 13 false = true := hall ⟨13, Ground.data⟩ (by simp) (by rfl)
        obtain ⟨G, rfl, hG, hGc⟩ := h13 d13
        go_simp
        with_reducible refine (pick_of In64 (fun _ h => h) G 5 5 (by omega) (by omega) W0.heap.size hG ra rn rc _ (HH.out.at HS6.out) hGc).mono ?_
        rintro e w9 ⟨z, hz, rfl, hs, hap⟩
        have HH2 := Lib.hid (HH.out.call hs hap)
        have hk := hK.out _ _ ⟨t75, t76, t77, t78, t79, t80, t81, t82, t83, t84, t85, t86, _, _, .int .i64 z, t90, t91, t92, t93, t94, t95, t96, rfl, HH2, (keepV h0 (by decide)), (keepV h1 (by decide)), (keepV h2 (by decide)), (keepV h3 (by decide)), (keepV h4 (by decide)), (keepV h5 (by decide)), (keepV h6 (by decide)), (keepV h7 (by decide)), (keepV h8 (by decide)), (keepV h9 (by decide)), (fun hd => (keepV h10 (by decide) hd).apart hap), (keepV h11 (by decide)), (keepV h12 (by decide)), (fun hd => (keepV h13 (by decide) hd).apart hap), (fun _ => ⟨_, rfl⟩), (keepV h15 (by decide)), (fun hd => (keepV h16 (by decide) hd).apart hap), (keepV h17 (by decide)), (keepV h18 (by decide)), (fun hd => (keepV h19 (by decide) hd).apart hap), (keepV h20 (by decide)), (keepV h21 (by decide))⟩
        simp only [putL, Act.put, List.getElem_toArray, List.getElem_cons_zero, List.getElem_cons_succ, List.setIfInBounds_toArray, List.set_cons_zero, List.set_cons_succ] at hk
        exact hk
      case s15 =>
        intro listed ts wx hall hI K hK
        obtain ⟨t75, t76, t77, t78, t79, t80, t81, t82, t83, t84, t85, t86, t87, t88, t89, t90, t91, t92, t93, t94, t95, t96, hts, HH, h0, h1, h2, h3, h4, h5, h6, h7, h8, h9, h10, h11, h12, h13, h14, h15, h16, h17, h18, h19, h20, h21⟩ := hI
        rw [if_pos (by rfl)]
        subst hts
        simp only [putL, Act.put, List.getElem_toArray, List.getElem_cons_zero, List.getElem_cons_succ, List.setIfInBounds_toArray, List.set_cons_zero, List.set_cons_succ]
        go_simp
        have hk := hK.out _ _ ⟨t75, t76, t77, t78, t79, t80, t81, t82, t83, t84, t85, t86, t87, t88, t89, _, t91, t92, t93, t94, t95, t96, rfl, HH, (keepV h0 (by decide)), (keepV h1 (by decide)), (keepV h2 (by decide)), (keepV h3 (by decide)), (keepV h4 (by decide)), (keepV h5 (by decide)), (keepV h6 (by decide)), (keepV h7 (by decide)), (keepV h8 (by decide)), (keepV h9 (by decide)), (keepV h10 (by decide)), (keepV h11 (by decide)), (keepV h12 (by decide)), (keepV h13 (by decide)), (keepV h14 (by decide)), (fun _ => rfl), (keepV h16 (by decide)), (keepV h17 (by decide)), (keepV h18 (by decide)), (keepV h19 (by decide)), (keepV h20 (by decide)), (keepV h21 (by decide))⟩
        simp only [putL, Act.put, List.getElem_toArray, List.getElem_cons_zero, List.getElem_cons_succ, List.setIfInBounds_toArray, List.set_cons_zero, List.set_cons_succ] at hk
        exact hk
      case s16 =>
        intro listed ts wx hall hI K hK
        obtain ⟨t75, t76, t77, t78, t79, t80, t81, t82, t83, t84, t85, t86, t87, t88, t89, t90, t91, t92, t93, t94, t95, t96, hts, HH, h0, h1, h2, h3, h4, h5, h6, h7, h8, h9, h10, h11, h12, h13, h14, h15, h16, h17, h18, h19, h20, h21⟩ := hI
        rw [if_pos (by rfl)]
        subst hts
        simp only [putL, Act.put, List.getElem_toArray, List.getElem_cons_zero, List.getElem_cons_succ, List.setIfInBounds_toArray, List.set_cons_zero, List.set_cons_succ]
        have hlt := HH.out.lt
        go_simp
        have HH2 := Lib.hid (HH.out.alloc (.cells #[.int .i64 0, .int .i64 (-1), .int .i64 1048576, .int .i64 1048577, .int .i64 3] 3))
        have hap := (Apart.refl W0.heap.size wx).alloc (.cells #[.int .i64 0, .int .i64 (-1), .int .i64 1048576, .int .i64 1048577, .int .i64 3] 3)
        have hk := hK.out _ _ ⟨t75, t76, t77, t78, t79, t80, t81, t82, t83, t84, t85, t86, t87, t88, t89, t90, _, t92, t93, t94, t95, t96, rfl, HH2, (keepV h0 (by decide)), (keepV h1 (by decide)), (keepV h2 (by decide)), (keepV h3 (by decide)), (keepV h4 (by decide)), (keepV h5 (by decide)), (keepV h6 (by decide)), (keepV h7 (by decide)), (keepV h8 (by decide)), (keepV h9 (by decide)), (fun hd => (keepV h10 (by decide) hd).apart hap), (keepV h11 (by decide)), (keepV h12 (by decide)), (fun hd => (keepV h13 (by decide) hd).apart hap), (keepV h14 (by decide)), (keepV h15 (by decide)), (fun _ => ⟨wx.heap.size, rfl, Nat.ne_of_gt hlt, list_newP In64 wx [0, (-1), 1048576, 1048577, 3] 3 (by decide)⟩), (keepV h17 (by decide)), (keepV h18 (by decide)), (fun hd => (keepV h19 (by decide) hd).apart hap), (keepV h20 (by decide)), (keepV h21 (by decide))⟩
        simp only [putL, Act.put, List.getElem_toArray, List.getElem_cons_zero, List.getElem_cons_succ, List.setIfInBounds_toArray, List.set_cons_zero, List.set_cons_succ] at hk
        exact hk
      case s17 =>
        intro listed ts wx hall hI K hK
        obtain ⟨t75, t76, t77, t78, t79, t80, t81, t82, t83, t84, t85, t86, t87, t88, t89, t90, t91, t92, t93, t94, t95, t96, hts, HH, h0, h1, h2, h3, h4, h5, h6, h7, h8, h9, h10, h11, h12, h13, h14, h15, h16, h17, h18, h19, h20, h21⟩ := hI
        rw [if_pos (by rfl)]
        subst hts
        simp only [putL, Act.put, List.getElem_toArray, List.getElem_cons_zero, List.getElem_cons_succ, List.setIfInBounds_toArray, List.set_cons_zero, List.set_cons_succ]
        have d15 : listed.getD 15 false = true := hall ⟨15, Ground.data⟩ (by simp) (by rfl)
        obtain rfl := h15 d15
        have d16 : listed.getD 16 false = true := hall ⟨16, Ground.data⟩ (by simp) (by rfl)
        obtain ⟨G, rfl, hG, hGc⟩ := h16 d16
        go_simp
        with_reducible refine (pick_of In64 (fun _ h => h) G 5 5 (by omega) (by omega) W0.heap.size hG ra rn rc _ (HH.out.at HS6.out) hGc).mono ?_
        rintro e w9 ⟨z, hz, rfl, hs, hap⟩
        have HH2 := Lib.hid (HH.out.call hs hap)
        have hk := hK.out _ _ ⟨t75, t76, t77, t78, t79, t80, t81, t82, t83, t84, t85, t86, t87, t88, t89, _, _, .int .i64 z, t93, t94, t95, t96, rfl, HH2, (keepV h0 (by decide)), (keepV h1 (by decide)), (keepV h2 (by decide)), (keepV h3 (by decide)), (keepV h4 (by decide)), (keepV h5 (by decide)), (keepV h6 (by decide)), (keepV h7 (by decide)), (keepV h8 (by decide)), (keepV h9 (by decide)), (fun hd => (keepV h10 (by decide) hd).apart hap), (keepV h11 (by decide)), (keepV h12 (by decide)), (fun hd => (keepV h13 (by decide) hd).apart hap), (keepV h14 (by decide)), (keepV h15 (by decide)), (fun hd => (keepV h16 (by decide) hd).apart hap), (fun _ => ⟨_, rfl⟩), (keepV h18 (by decide)), (fun hd => (keepV h19 (by decide) hd).apart hap), (keepV h20 (by decide)), (keepV h21 (by decide))⟩
        simp only [putL, Act.put, List.getElem_toArray, List.getElem_cons_zero, List.getElem_cons_succ, List.setIfInBounds_toArray, List.set_cons_zero, List.set_cons_succ] at hk
        exact hk
      case s18 =>
        intro listed ts wx hall hI K hK
        obtain ⟨t75, t76, t77, t78, t79, t80, t81, t82, t83, t84, t85, t86, t87, t88, t89, t90, t91, t92, t93, t94, t95, t96, hts, HH, h0, h1, h2, h3, h4, h5, h6, h7, h8, h9, h10, h11, h12, h13, h14, h15, h16, h17, h18, h19, h20, h21⟩ := hI
        rw [if_pos (by rfl)]
        subst hts
        simp only [putL, Act.put, List.getElem_toArray, List.getElem_cons_zero, List.getElem_cons_succ, List.setIfInBounds_toArray, List.set_cons_zero, List.set_cons_succ]
        have d11 : listed.getD 11 false = true := hall ⟨11, Ground.data⟩ (by simp) (by rfl)
        obtain ⟨x, rfl⟩ := h11 d11
        have d14 : listed.getD 14 false = true := hall ⟨14, Ground.data⟩ (by simp) (by rfl)
        obtain ⟨y, rfl⟩ := h14 d14
        have d17 : listed.getD 17 false = true := hall ⟨17, Ground.data⟩ (by simp) (by rfl)
        obtain ⟨z, rfl⟩ := h17 d17
        go_simp
        have hk := hK.out _ _ ⟨t75, t76, t77, t78, t79, t80, t81, t82, t83, t84, t85, _, t87, t88, _, t90, t91, _, .agg #[.int .i64 x, .int .i64 y, .int .i64 z], t94, t95, t96, rfl, HH, (keepV h0 (by decide)), (keepV h1 (by decide)), (keepV h2 (by decide)), (keepV h3 (by decide)), (keepV h4 (by decide)), (keepV h5 (by decide)), (keepV h6 (by decide)), (keepV h7 (by decide)), (keepV h8 (by decide)), (keepV h9 (by decide)), (keepV h10 (by decide)), (keepV h11 (by decide)), (keepV h12 (by decide)), (keepV h13 (by decide)), (keepV h14 (by decide)), (keepV h15 (by decide)), (keepV h16 (by decide)), (keepV h17 (by decide)), (fun _ => ⟨_, _, _, rfl⟩), (keepV h19 (by decide)), (keepV h20 (by decide)), (keepV h21 (by decide))⟩
        simp only [putL, Act.put, List.getElem_toArray, List.getElem_cons_zero, List.getElem_cons_succ, List.setIfInBounds_toArray, List.set_cons_zero, List.set_cons_succ] at hk
        exact hk
      case s19 =>
        intro listed ts wx hall hI K hK
        obtain ⟨t75, t76, t77, t78, t79, t80, t81, t82, t83, t84, t85, t86, t87, t88, t89, t90, t91, t92, t93, t94, t95, t96, hts, HH, h0, h1, h2, h3, h4, h5, h6, h7, h8, h9, h10, h11, h12, h13, h14, h15, h16, h17, h18, h19, h20, h21⟩ := hI
        rw [if_pos (by rfl)]
        subst hts
        simp only [putL, Act.put, List.getElem_toArray, List.getElem_cons_zero, List.getElem_cons_succ, List.setIfInBounds_toArray, List.set_cons_zero, List.set_cons_succ]
        have d0 : listed.getD 0 false = true := hall ⟨0, Ground.data⟩ (by simp) (by rfl)
        obtain rfl := h0 d0
        have d8 : listed.getD 8 false = true := hall ⟨8, Ground.data⟩ (by simp) (by rfl)
        obtain ⟨x, y, z, rfl⟩ := h8 d8
        have d18 : listed.getD 18 false = true := hall ⟨18, Ground.data⟩ (by simp) (by rfl)
        obtain ⟨x2, y2, z2, rfl⟩ := h18 d18
        have hlt := HH.out.lt
        go_simp
        have HH2 := Lib.hid (HH.out.alloc (.cells #[.int .i64 s1, .int .i64 s2, .int .i64 s3, .int .i64 x, .int .i64 y, .int .i64 z, .int .i64 x2, .int .i64 y2, .int .i64 z2] 100))
        have hap := (Apart.refl W0.heap.size wx).alloc (.cells #[.int .i64 s1, .int .i64 s2, .int .i64 s3, .int .i64 x, .int .i64 y, .int .i64 z, .int .i64 x2, .int .i64 y2, .int .i64 z2] 100)
        have hk := hK.out _ _ ⟨_, t76, t77, t78, t79, t80, t81, t82, _, t84, t85, t86, t87, t88, t89, t90, t91, t92, _, _, t95, t96, rfl, HH2, (keepV h0 (by decide)), (keepV h1 (by decide)), (keepV h2 (by decide)), (keepV h3 (by decide)), (keepV h4 (by decide)), (keepV h5 (by decide)), (keepV h6 (by decide)), (keepV h7 (by decide)), (keepV h8 (by decide)), (keepV h9 (by decide)), (fun hd => (keepV h10 (by decide) hd).apart hap), (keepV h11 (by decide)), (keepV h12 (by decide)), (fun hd => (keepV h13 (by decide) hd).apart hap), (keepV h14 (by decide)), (keepV h15 (by decide)), (fun hd => (keepV h16 (by decide) hd).apart hap), (keepV h17 (by decide)), (keepV h18 (by decide)), (fun _ => ⟨wx.heap.size, rfl, Nat.ne_of_gt hlt, st3_new wx _ _ _ _ _ _ _ _ _ _⟩), (keepV h20 (by decide)), (keepV h21 (by decide))⟩
        simp only [putL, Act.put, List.getElem_toArray, List.getElem_cons_zero, List.getElem_cons_succ, List.setIfInBounds_toArray, List.set_cons_zero, List.set_cons_succ] at hk
        exact hk
      case s20 =>
        intro listed ts wx hall hI K hK
        obtain ⟨t75, t76, t77, t78, t79, t80, t81, t82, t83, t84, t85, t86, t87, t88, t89, t90, t91, t92, t93, t94, t95, t96, hts, HH, h0, h1, h2, h3, h4, h5, h6, h7, h8, h9, h10, h11, h12, h13, h14, h15, h16, h17, h18, h19, h20, h21⟩ := hI
        rw [if_pos (by rfl)]
        subst hts
        simp only [putL, Act.put, List.getElem_toArray, List.getElem_cons_zero, List.getElem_cons_succ, List.setIfInBounds_toArray, List.set_cons_zero, List.set_cons_succ]
        have d19 : listed.getD 19 false = true := hall ⟨19, Ground.data⟩ (by simp) (by rfl)
        obtain ⟨T2, rfl, hT2, hT3⟩ := h19 d19
        go_simp
        have hk := hK.out _ _ ⟨t75, t76, t77, t78, t79, t80, t81, t82, t83, t84, t85, t86, t87, t88, t89, t90, t91, t92, t93, _, _, t96, rfl, HH, (keepV h0 (by decide)), (keepV h1 (by decide)), (keepV h2 (by decide)), (keepV h3 (by decide)), (keepV h4 (by decide)), (keepV h5 (by decide)), (keepV h6 (by decide)), (keepV h7 (by decide)), (keepV h8 (by decide)), (keepV h9 (by decide)), (keepV h10 (by decide)), (keepV h11 (by decide)), (keepV h12 (by decide)), (keepV h13 (by decide)), (keepV h14 (by decide)), (keepV h15 (by decide)), (keepV h16 (by decide)), (keepV h17 (by decide)), (keepV h18 (by decide)), (keepV h19 (by decide)), (fun _ => rfl), (keepV h21 (by decide))⟩
        simp only [putL, Act.put, List.getElem_toArray, List.getElem_cons_zero, List.getElem_cons_succ, List.setIfInBounds_toArray, List.set_cons_zero, List.set_cons_succ] at hk
        exact hk
      case s21 =>
        intro listed ts wx hall hI K hK
        obtain ⟨t75, t76, t77, t78, t79, t80, t81, t82, t83, t84, t85, t86, t87, t88, t89, t90, t91, t92, t93, t94, t95, t96, hts, HH, h0, h1, h2, h3, h4, h5, h6, h7, h8, h9, h10, h11, h12, h13, h14, h15, h16, h17, h18, h19, h20, h21⟩ := hI
        rw [if_pos (by rfl)]
        subst hts
        simp only [putL, Act.put, List.getElem_toArray, List.getElem_cons_zero, List.getElem_cons_succ, List.setIfInBounds_toArray, List.set_cons_zero, List.set_cons_succ]
        go_simp
        have hk := hK.out _ _ ⟨t75, t76, t77, t78, t79, t80, t81, t82, t83, t84, t85, t86, t87, t88, t89, t90, t91, t92, t93, t94, t95, _, rfl, HH, (keepV h0 (by decide)), (keepV h1 (by decide)), (keepV h2 (by decide)), (keepV h3 (by decide)), (keepV h4 (by decide)), (keepV h5 (by decide)), (keepV h6 (by decide)), (keepV h7 (by decide)), (keepV h8 (by decide)), (keepV h9 (by decide)), (keepV h10 (by decide)), (keepV h11 (by decide)), (keepV h12 (by decide)), (keepV h13 (by decide)), (keepV h14 (by decide)), (keepV h15 (by decide)), (keepV h16 (by decide)), (keepV h17 (by decide)), (keepV h18 (by decide)), (keepV h19 (by decide)), (keepV h20 (by decide)), (fun _ => rfl)⟩
        simp only [putL, Act.put, List.getElem_toArray, List.getElem_cons_zero, List.getElem_cons_succ, List.setIfInBounds_toArray, List.set_cons_zero, List.set_cons_succ] at hk
        exact hk
    case hdone =>
      intro listed ts wx hA hI
      obtain ⟨t75, t76, t77, t78, t79, t80, t81, t82, t83, t84, t85, t86, t87, t88, t89, t90, t91, t92, t93, t94, t95, t96, rfl, HH, h0, h1, h2, h3, h4, h5, h6, h7, h8, h9, h10, h11, h12, h13, h14, h15, h16, h17, h18, h19, h20, h21⟩ := hI
      obtain ⟨T2, rfl, hT2, hT3⟩ := h19 (hA 19 (by decide))
      obtain rfl := h20 (hA 20 (by decide))
      obtain rfl := h21 (hA 21 (by decide))
      simp only [putL, Act.put, List.getElem_toArray, List.getElem_cons_zero, List.getElem_cons_succ, List.setIfInBounds_toArray, List.set_cons_zero, List.set_cons_succ]
      try go_wp2_with fail
      go_meet
      exact ⟨T2, rfl, rfl, rfl, hT2, hT3, HH⟩
  case rest =>
  obtain ⟨T2, rfl, rfl, rfl, hT2, HT3, HD2⟩ := hcut
  obtain ⟨w2, rfl⟩ : ∃ u : World, u = wc := ⟨_, rfl⟩
  clear HDq HDZ
  go_wp2_with fail
  go_loopw [96] (fun s wx => ∃ p : Nat, s = .int .i64 p ∧ p ≤ 3 ∧ Hid (Held w6 W0.heap.size ra rn rc wx) ∧ Hid (St3 wx T2)) (fun s _ => 3 - (intOf s).toNat)
  case atStart => exact ⟨0, by go_num, by omega, HD2, HT3⟩
  case round =>
  obtain ⟨p, rfl, hp, HDp, HTp⟩ := hrel
  obtain ⟨wp, rfl⟩ : ∃ u : World, u = wr := ⟨_, rfl⟩
  clear HD2 HT3
  by_cases hp3 : p < 3
  · have hpi : (p : Int) < 3 := by omega
    obtain ⟨x, y, z, l0, l1, l2⟩ := HTp.out p hp3
    obtain ⟨r, hr⟩ : ∃ r : Rs, StepIs x y z r.zs r.p r.inc r.c := by
      obtain ⟨zs, p, inc, ec, h⟩ := stepIs_ex x y z
      exact ⟨⟨zs, p, inc, ec⟩, h⟩
    have HTK := Lib.hid hr
    clear hr
    obtain ⟨wb, hw⟩ : ∃ w', wp.alloc (.cells #[.int .i64 x, .int .i64 y, .int .i64 z] 100) = w' := ⟨_, rfl⟩
    have hz : Below wp.heap.size wp wb := by rw [← hw]; exact below_box _
    have XE := Lib.hid (show Cur3 wb wp.heap.size (.int .i64 x) (.int .i64 y) (.int .i64 z) by rw [← hw]; exact Cur3.new _ _ _ _ _)
    have HB8 := Lib.hid hz
    have HW := Lib.hid hw
    clear hw hz
    go_upto_region 16 with fail
    try rw [HW.out]
    obtain ⟨EE, hE⟩ : ∃ B, wp.heap.size = B := ⟨_, rfl⟩
    rw [hE] at XE
    try rw [hE]
    clear HW hE l0 l1 l2
    obtain ⟨d0, d1, d2, d3, d4, d5⟩ := XE.out
    go_wp2_with fail
    clear d0 d1 d2 d3 d4 d5
    refine (steps_ce HTK.out _).mono ?_
    rintro e y1 ⟨a1, n1, k1, rfl, hb, hr, hx⟩
    obtain ⟨v1, hw⟩ : ∃ w', y1.alloc (.cells #[.slice a1 n1 k1, .int .i64 r.p, .int .i64 r.inc] 38) = w' := ⟨_, rfl⟩
    have hz : Below wb.heap.size wb v1 := by rw [← hw]; exact hb.trans ((below_box _).mono hb.size)
    have HB8 := Lib.hid (HB8.out.trans (hz.mono HB8.out.size))
    have XV1 := Lib.hid (show Cur3 v1 y1.heap.size (.slice a1 n1 k1) (.int .i64 r.p) (.int .i64 r.inc) by rw [← hw]; exact Cur3.new _ _ _ _ _)
    have RV1 := Lib.hid (show RowZ v1 a1 n1 k1 r.zs by rw [← hw]; exact hr.under (below_box _))
    have XE := Lib.hid (XE.out.below hz)
    have HW := Lib.hid hw
    clear hw hz hb hr hx
    go_upto_region 17 with fail
    try rw [HW.out]
    obtain ⟨F1, hE⟩ : ∃ B, y1.heap.size = B := ⟨_, rfl⟩
    rw [hE] at XV1
    try rw [hE]
    clear HW hE
    obtain ⟨d0, d1, d2, d3, d4, d5⟩ := XE.out
    go_wp2_with fail
    clear d0 d1 d2 d3 d4 d5
    refine (rsteps_ce HTK.out _).mono ?_
    rintro e y2 ⟨a2, n2, k2, rfl, hb, hr, hx⟩
    obtain ⟨v2, hw⟩ : ∃ w', y2.alloc (.cells #[.slice a2 n2 k2, .int .i64 r.p, .int .i64 r.inc] 38) = w' := ⟨_, rfl⟩
    have hz : Below v1.heap.size v1 v2 := by rw [← hw]; exact hb.trans ((below_box _).mono hb.size)
    have HB8 := Lib.hid (HB8.out.trans (hz.mono HB8.out.size))
    have XV2 := Lib.hid (show Cur3 v2 y2.heap.size (.slice a2 n2 k2) (.int .i64 r.p) (.int .i64 r.inc) by rw [← hw]; exact Cur3.new _ _ _ _ _)
    have RV2 := Lib.hid (show RowZ v2 a2 n2 k2 r.zs by rw [← hw]; exact hr.under (below_box _))
    have XV1 := Lib.hid (XV1.out.below hz)
    have RV1 := Lib.hid (RV1.out.under hz)
    have HW := Lib.hid hw
    clear hw hz hb hr hx
    go_upto_region 18 with fail
    try rw [HW.out]
    obtain ⟨F2, hE⟩ : ∃ B, y2.heap.size = B := ⟨_, rfl⟩
    rw [hE] at XV2
    try rw [hE]
    clear HW hE
    obtain ⟨d0, d1, d2, d3, d4, d5⟩ := XV1.out
    obtain ⟨e0, e1, e2, e3, e4, e5⟩ := XV2.out
    go_wp2_with fail
    clear d0 d1 d2 d3 d4 d5 e0 e1 e2 e3 e4 e5
    refine (rsame_any a1 n1 k1 r.zs r.p r.inc a2 n2 k2 r.zs r.p r.inc true (sameB_me _ _ _) _ RV1.out RV2.out).mono ?_
    rintro e y3 ⟨rfl, hb⟩
    have HB8 := Lib.hid (HB8.out.trans (hb.mono HB8.out.size))
    clear hb
    go_wp2_with fail
    go_roundw
    case rel => exact ⟨p + 1, by go_num, by omega, HDp.out.below HB8.out, HTp.out.under HB8.out⟩
    case measure => simp [intOf]; omega
  have hpi : ¬ (p : Int) < 3 := by omega
  clear HTp
  go_wp2_with fail
  refine (n_any 2 (by omega) (by omega) _ ra rn rc _ (HDp.out.at HS6.out)).mono ?_
  rintro e u15 ⟨r3, ⟨s10, s11⟩, rfl, hs, he⟩
  obtain ⟨m, hm⟩ : ∃ m : Nat, 20 + r3 = (m : Int) := ⟨(20 + r3).toNat, by omega⟩
  have hmb : m ≤ 21 ∧ 20 ≤ m := by omega
  have hmw : IntKind.i64.wrap (m : Int) = (m : Int) := IntWalk.i64_in _ ⟨by omega, by omega⟩
  have hmkm := HMK.out m (by omega)
  have HD15 := Lib.hid (HDp.out.call hs he.apart)
  clear hs he HDp
  obtain ⟨w16, hw⟩ : ∃ w', u15.alloc (.cells (madeCells #[.int .i64 0, .int .i64 0, .int .i64 0, .int .i64 0] (m * 4)) 46) = w' := ⟨_, rfl⟩
  have hz : Below u15.heap.size u15 w16 := by rw [← hw]; exact below_box _
  have LM := Lib.hid (show LstB u15.heap.size m w16 by rw [← hw]; exact LstB.make u15 m _)
  have HD16 := Lib.hid (HD15.out.below hz)
  have HGE := Lib.hid (show w6.heap.size ≤ u15.heap.size from HD15.out.ap.size)
  have hGb : u15.heap.size ≠ W0.heap.size := by have := HD15.out.lt; omega
  have HW := Lib.hid hw
  clear hw hz HD15
  go_upto_region 22 with fail
  try rw [HW.out]
  obtain ⟨G, hG⟩ : ∃ B, u15.heap.size = B := ⟨_, rfl⟩
  rw [hG] at LM HGE hGb
  try rw [hG]
  clear HW hG hmkm hmw hm s10 s11
  go_wp2_with fail
  go_loopw [126] (fun s wx => ∃ j : Nat, s = .int .i64 j ∧ j ≤ m ∧ Hid (Held w6 W0.heap.size ra rn rc wx) ∧ Hid (LstB G m wx)) (fun s _ => m - (intOf s).toNat)
  case atStart => exact ⟨0, by go_num, by omega, HD16, LM⟩
  case round =>
  obtain ⟨j, rfl, hj, HDj, HLj⟩ := hrel
  obtain ⟨wj, rfl⟩ : ∃ u : World, u = wr := ⟨_, rfl⟩
  clear HD16 LM
  by_cases hj3 : j < m
  · have HD3 := HDj.out
    have hji : (j : Int) < (m : Int) := by omega
    obtain ⟨z0, z1, z2, z3, c0, c1, c2, c3, f0, f1, f2, f3⟩ := HLj.out.four hj3
    have hw1 : IntKind.i64.wrap (3 * (j : Int)) = 3 * (j : Int) := IntWalk.i64_in _ ⟨by omega, by omega⟩
    have hw2 : IntKind.i64.wrap (5 + 3 * (j : Int)) = 5 + 3 * (j : Int) := IntWalk.i64_in _ ⟨by omega, by omega⟩
    have hw3 : IntKind.i64.wrap (9 - (j : Int)) = 9 - (j : Int) := IntWalk.i64_in _ ⟨by omega, by omega⟩
    have HS9Z := HS6.out.lt
    go_wp2_with fail
    go_roundw
    case rel => exact ⟨j + 1, by go_num, by omega, (((HD3.set HS9Z HGE.out _).set HS9Z HGE.out _).set HS9Z HGE.out _).set HS9Z HGE.out _, (((HLj.out.set (by omega) trivial).set (by omega) trivial).set (by omega) trivial).set (by omega) trivial⟩
    case measure => simp [intOf]; omega
  have hji : ¬ (j : Int) < (m : Int) := by omega
  obtain ⟨bs2, hl2, hr2⟩ := HLj.out.list
  have LB := Lib.hid (show IsB W0.heap.size wj (some ⟨G, 0, none⟩) m m from IsB.block hr2 hGb hl2 (by omega) (by omega))
  have XJ := Lib.hid (XC6.out.apart HDj.out.ap hCb)
  have LJ := Lib.hid (L6.out.apart HDj.out.ap)
  have HSJ := Lib.hid (HDj.out.at HS6.out)
  have HBJ := Lib.hid (show Below W.heap.size W wj from HBW6.out.trans (HDj.out.ap.below (by omega) HBW6.out.size))
  have HDZ := Lib.hid (Held.start HSJ.out)
  clear hr2 hl2 HLj X6 XS6 XC6 L6 HBW6 HDj HGE HMK
  go_upto_region 27 with fail
  go_cut [157, 158, 159] (fun s157 s158 s159 wx => ∃ T2 : Nat, s157 = .slice (some ⟨T2, 0, none⟩) 5 5 ∧ s158 = .int .i64 5 ∧ s159 = .int .i64 0 ∧ ¬ T2 = W0.heap.size ∧ Hid (Sb5 W0.heap.size wx T2) ∧ Hid (Held wj W0.heap.size ra rn rc wx))
  case first =>
    refine wp_region_inv 142 18 (fun ts listed wx => ∃ t142 t143 t144 t145 t146 t147 t148 t149 t150 t151 t152 t153 t154 t155 t156 t157 t158 t159 : Value, ts = [t142, t143, t144, t145, t146, t147, t148, t149, t150, t151, t152, t153, t154, t155, t156, t157, t158, t159] ∧ Hid (Held wj W0.heap.size ra rn rc wx) ∧ (listed.getD 0 false = true → VAb W0.heap.size A9 n9 c9 t142 wx) ∧ (listed.getD 1 false = true → t143 = .agg #[.int .i64 x7, .int .i64 y7, .int .i64 x8, .int .i64 y8]) ∧ (listed.getD 2 false = true → VB W0.heap.size 1 t144 wx) ∧ (listed.getD 3 false = true → t145 = .pointer (some ⟨W0.heap.size, 0, none⟩)) ∧ (listed.getD 4 false = true → VF t146) ∧ (listed.getD 5 false = true → t147 = .pointer (some ⟨W0.heap.size, 0, none⟩)) ∧ (listed.getD 6 false = true → VF t148) ∧ (listed.getD 7 false = true → VK t149) ∧ (listed.getD 8 false = true → t150 = .pointer (some ⟨W0.heap.size, 0, none⟩)) ∧ (listed.getD 9 false = true → VF t151) ∧ (listed.getD 10 false = true → t152 = .pointer (some ⟨W0.heap.size, 0, none⟩)) ∧ (listed.getD 11 false = true → VF t153) ∧ (listed.getD 12 false = true → VK t154) ∧ (listed.getD 13 false = true → VB W0.heap.size 2 t155 wx) ∧ (listed.getD 14 false = true → VAb W0.heap.size (some ⟨G, 0, none⟩) m m t156 wx) ∧ (listed.getD 15 false = true → VM W0.heap.size t157 wx) ∧ (listed.getD 16 false = true → t158 = .int .i64 5) ∧ (listed.getD 17 false = true → t159 = .int .i64 0)) (by kernel_rfl) (by kernel_rfl) ?h0 ?hstep ?hdone
    case h0 =>
      exact ⟨_, _, _, _, _, _, _, _, _, _, _, _, _, _, _, _, _, _, rfl, HDZ.out.drew, (fun h => absurd h (by decide)), (fun h => absurd h (by decide)), (fun h => absurd h (by decide)), (fun h => absurd h (by decide)), (fun h => absurd h (by decide)), (fun h => absurd h (by decide)), (fun h => absurd h (by decide)), (fun h => absurd h (by decide)), (fun h => absurd h (by decide)), (fun h => absurd h (by decide)), (fun h => absurd h (by decide)), (fun h => absurd h (by decide)), (fun h => absurd h (by decide)), (fun h => absurd h (by decide)), (fun h => absurd h (by decide)), (fun h => absurd h (by decide)), (fun h => absurd h (by decide)), (fun h => absurd h (by decide))⟩
    case hstep =>
      refine StepsI.cons (j := 1) rfl ?s0 (StepsI.cons (j := 2) rfl ?s1 (StepsI.cons (j := 3) rfl ?s2 (StepsI.cons (j := 4) rfl ?s3 (StepsI.cons (j := 5) rfl ?s4 (StepsI.cons (j := 6) rfl ?s5 (StepsI.cons (j := 7) rfl ?s6 (StepsI.cons (j := 8) rfl ?s7 (StepsI.cons (j := 9) rfl ?s8 (StepsI.cons (j := 10) rfl ?s9 (StepsI.cons (j := 11) rfl ?s10 (StepsI.cons (j := 12) rfl ?s11 (StepsI.cons (j := 13) rfl ?s12 (StepsI.cons (j := 14) rfl ?s13 (StepsI.cons (j := 15) rfl ?s14 (StepsI.cons (j := 16) rfl ?s15 (StepsI.cons (j := 17) rfl ?s16 (StepsI.cons (j := 18) rfl ?s17 (StepsI.nil))))))))))))))))))
      case s0 =>
        intro listed ts wx hall hI K hK
        obtain ⟨t142, t143, t144, t145, t146, t147, t148, t149, t150, t151, t152, t153, t154, t155, t156, t157, t158, t159, hts, HH, h0, h1, h2, h3, h4, h5, h6, h7, h8, h9, h10, h11, h12, h13, h14, h15, h16, h17⟩ := hI
        rw [if_pos (by rfl)]
        subst hts
        simp only [putL, Act.put, List.getElem_toArray, List.getElem_cons_zero, List.getElem_cons_succ, List.setIfInBounds_toArray, List.set_cons_zero, List.set_cons_succ]
        go_simp
        have hk := hK.out _ _ ⟨_, t143, t144, t145, t146, t147, t148, t149, t150, t151, t152, t153, t154, t155, t156, t157, t158, t159, rfl, HH, (fun _ => ⟨rfl, LJ.out.apart HH.out.ap⟩), (keepV h1 (by decide)), (keepV h2 (by decide)), (keepV h3 (by decide)), (keepV h4 (by decide)), (keepV h5 (by decide)), (keepV h6 (by decide)), (keepV h7 (by decide)), (keepV h8 (by decide)), (keepV h9 (by decide)), (keepV h10 (by decide)), (keepV h11 (by decide)), (keepV h12 (by decide)), (keepV h13 (by decide)), (keepV h14 (by decide)), (keepV h15 (by decide)), (keepV h16 (by decide)), (keepV h17 (by decide))⟩
        simp only [putL, Act.put, List.getElem_toArray, List.getElem_cons_zero, List.getElem_cons_succ, List.setIfInBounds_toArray, List.set_cons_zero, List.set_cons_succ] at hk
        exact hk
      case s1 =>
        intro listed ts wx hall hI K hK
        obtain ⟨t142, t143, t144, t145, t146, t147, t148, t149, t150, t151, t152, t153, t154, t155, t156, t157, t158, t159, hts, HH, h0, h1, h2, h3, h4, h5, h6, h7, h8, h9, h10, h11, h12, h13, h14, h15, h16, h17⟩ := hI
        rw [if_pos (by rfl)]
        subst hts
        simp only [putL, Act.put, List.getElem_toArray, List.getElem_cons_zero, List.getElem_cons_succ, List.setIfInBounds_toArray, List.set_cons_zero, List.set_cons_succ]
        obtain ⟨q0, q1, q2, q3⟩ := XJ.out.apart HH.out.ap hCb
        go_simp
        have hk := hK.out _ _ ⟨t142, _, t144, t145, t146, t147, t148, t149, t150, t151, t152, t153, t154, t155, t156, t157, t158, t159, rfl, HH, (keepV h0 (by decide)), (fun _ => rfl), (keepV h2 (by decide)), (keepV h3 (by decide)), (keepV h4 (by decide)), (keepV h5 (by decide)), (keepV h6 (by decide)), (keepV h7 (by decide)), (keepV h8 (by decide)), (keepV h9 (by decide)), (keepV h10 (by decide)), (keepV h11 (by decide)), (keepV h12 (by decide)), (keepV h13 (by decide)), (keepV h14 (by decide)), (keepV h15 (by decide)), (keepV h16 (by decide)), (keepV h17 (by decide))⟩
        simp only [putL, Act.put, List.getElem_toArray, List.getElem_cons_zero, List.getElem_cons_succ, List.setIfInBounds_toArray, List.set_cons_zero, List.set_cons_succ] at hk
        exact hk
      case s2 =>
        intro listed ts wx hall hI K hK
        obtain ⟨t142, t143, t144, t145, t146, t147, t148, t149, t150, t151, t152, t153, t154, t155, t156, t157, t158, t159, hts, HH, h0, h1, h2, h3, h4, h5, h6, h7, h8, h9, h10, h11, h12, h13, h14, h15, h16, h17⟩ := hI
        rw [if_pos (by rfl)]
        subst hts
        simp only [putL, Act.put, List.getElem_toArray, List.getElem_cons_zero, List.getElem_cons_succ, List.setIfInBounds_toArray, List.set_cons_zero, List.set_cons_succ]
        have d1 : listed.getD 1 false = true := hall ⟨1, Ground.data⟩ (by simp) (by rfl)
        obtain rfl := h1 d1
        have hlt := HH.out.lt
        go_simp
        have HH2 := Lib.hid (HH.out.alloc (.cells #[.int .i64 x7, .int .i64 y7, .int .i64 x8, .int .i64 y8] 46))
        have hap := (Apart.refl W0.heap.size wx).alloc (.cells #[.int .i64 x7, .int .i64 y7, .int .i64 x8, .int .i64 y8] 46)
        have hk := hK.out _ _ ⟨t142, _, _, t145, t146, t147, t148, t149, t150, t151, t152, t153, t154, t155, t156, t157, t158, t159, rfl, HH2, (fun hd => (keepV h0 (by decide) hd).apart hap), (keepV h1 (by decide)), (fun _ => ⟨some ⟨wx.heap.size, 0, none⟩, rfl, IsB.block (rowC_one wx ⟨x7, y7, x8, y8⟩ 46) (Nat.ne_of_gt hlt) rfl (by omega) (by omega)⟩), (keepV h3 (by decide)), (keepV h4 (by decide)), (keepV h5 (by decide)), (keepV h6 (by decide)), (keepV h7 (by decide)), (keepV h8 (by decide)), (keepV h9 (by decide)), (keepV h10 (by decide)), (keepV h11 (by decide)), (keepV h12 (by decide)), (fun hd => (keepV h13 (by decide) hd).apart hap), (fun hd => (keepV h14 (by decide) hd).apart hap), (fun hd => (keepV h15 (by decide) hd).apart hap), (keepV h16 (by decide)), (keepV h17 (by decide))⟩
        simp only [putL, Act.put, List.getElem_toArray, List.getElem_cons_zero, List.getElem_cons_succ, List.setIfInBounds_toArray, List.set_cons_zero, List.set_cons_succ] at hk
        exact hk
      case s3 =>
        intro listed ts wx hall hI K hK
        obtain ⟨t142, t143, t144, t145, t146, t147, t148, t149, t150, t151, t152, t153, t154, t155, t156, t157, t158, t159, hts, HH, h0, h1, h2, h3, h4, h5, h6, h7, h8, h9, h10, h11, h12, h13, h14, h15, h16, h17⟩ := hI
        rw [if_pos (by rfl)]
        subst hts
        simp only [putL, Act.put, List.getElem_toArray, List.getElem_cons_zero, List.getElem_cons_succ, List.setIfInBounds_toArray, List.set_cons_zero, List.set_cons_succ]
        go_simp
        have hk := hK.out _ _ ⟨t142, t143, t144, _, t146, t147, t148, t149, t150, t151, t152, t153, t154, t155, t156, t157, t158, t159, rfl, HH, (keepV h0 (by decide)), (keepV h1 (by decide)), (keepV h2 (by decide)), (fun _ => rfl), (keepV h4 (by decide)), (keepV h5 (by decide)), (keepV h6 (by decide)), (keepV h7 (by decide)), (keepV h8 (by decide)), (keepV h9 (by decide)), (keepV h10 (by decide)), (keepV h11 (by decide)), (keepV h12 (by decide)), (keepV h13 (by decide)), (keepV h14 (by decide)), (keepV h15 (by decide)), (keepV h16 (by decide)), (keepV h17 (by decide))⟩
        simp only [putL, Act.put, List.getElem_toArray, List.getElem_cons_zero, List.getElem_cons_succ, List.setIfInBounds_toArray, List.set_cons_zero, List.set_cons_succ] at hk
        exact hk
      case s4 =>
        intro listed ts wx hall hI K hK
        obtain ⟨t142, t143, t144, t145, t146, t147, t148, t149, t150, t151, t152, t153, t154, t155, t156, t157, t158, t159, hts, HH, h0, h1, h2, h3, h4, h5, h6, h7, h8, h9, h10, h11, h12, h13, h14, h15, h16, h17⟩ := hI
        rw [if_pos (by rfl)]
        subst hts
        simp only [putL, Act.put, List.getElem_toArray, List.getElem_cons_zero, List.getElem_cons_succ, List.setIfInBounds_toArray, List.set_cons_zero, List.set_cons_succ]
        have d3 : listed.getD 3 false = true := hall ⟨3, Ground.data⟩ (by simp) (by rfl)
        obtain rfl := h3 d3
        go_simp
        with_reducible refine (frac_any 30 3 (by omega) (by omega) (by omega) (by omega) W0.heap.size ra rn rc _ (HH.out.at HSJ.out)).mono ?_
        rintro e w99 ⟨x, y, hxy, rfl, hs, hap⟩
        have HH2 := Lib.hid (HH.out.call hs hap)
        have hk := hK.out _ _ ⟨t142, t143, t144, _, .agg #[.int .i64 x, .int .i64 y], t147, t148, t149, t150, t151, t152, t153, t154, t155, t156, t157, t158, t159, rfl, HH2, (fun hd => (keepV h0 (by decide) hd).apart hap), (keepV h1 (by decide)), (fun hd => (keepV h2 (by decide) hd).apart hap), (keepV h3 (by decide)), (fun _ => ⟨_, _, rfl⟩), (keepV h5 (by decide)), (keepV h6 (by decide)), (keepV h7 (by decide)), (keepV h8 (by decide)), (keepV h9 (by decide)), (keepV h10 (by decide)), (keepV h11 (by decide)), (keepV h12 (by decide)), (fun hd => (keepV h13 (by decide) hd).apart hap), (fun hd => (keepV h14 (by decide) hd).apart hap), (fun hd => (keepV h15 (by decide) hd).apart hap), (keepV h16 (by decide)), (keepV h17 (by decide))⟩
        simp only [putL, Act.put, List.getElem_toArray, List.getElem_cons_zero, List.getElem_cons_succ, List.setIfInBounds_toArray, List.set_cons_zero, List.set_cons_succ] at hk
        exact hk
      case s5 =>
        intro listed ts wx hall hI K hK
        obtain ⟨t142, t143, t144, t145, t146, t147, t148, t149, t150, t151, t152, t153, t154, t155, t156, t157, t158, t159, hts, HH, h0, h1, h2, h3, h4, h5, h6, h7, h8, h9, h10, h11, h12, h13, h14, h15, h16, h17⟩ := hI
        rw [if_pos (by rfl)]
        subst hts
        simp only [putL, Act.put, List.getElem_toArray, List.getElem_cons_zero, List.getElem_cons_succ, List.setIfInBounds_toArray, List.set_cons_zero, List.set_cons_succ]
        go_simp
        have hk := hK.out _ _ ⟨t142, t143, t144, t145, t146, _, t148, t149, t150, t151, t152, t153, t154, t155, t156, t157, t158, t159, rfl, HH, (keepV h0 (by decide)), (keepV h1 (by decide)), (keepV h2 (by decide)), (keepV h3 (by decide)), (keepV h4 (by decide)), (fun _ => rfl), (keepV h6 (by decide)), (keepV h7 (by decide)), (keepV h8 (by decide)), (keepV h9 (by decide)), (keepV h10 (by decide)), (keepV h11 (by decide)), (keepV h12 (by decide)), (keepV h13 (by decide)), (keepV h14 (by decide)), (keepV h15 (by decide)), (keepV h16 (by decide)), (keepV h17 (by decide))⟩
        simp only [putL, Act.put, List.getElem_toArray, List.getElem_cons_zero, List.getElem_cons_succ, List.setIfInBounds_toArray, List.set_cons_zero, List.set_cons_succ] at hk
        exact hk
      case s6 =>
        intro listed ts wx hall hI K hK
        obtain ⟨t142, t143, t144, t145, t146, t147, t148, t149, t150, t151, t152, t153, t154, t155, t156, t157, t158, t159, hts, HH, h0, h1, h2, h3, h4, h5, h6, h7, h8, h9, h10, h11, h12, h13, h14, h15, h16, h17⟩ := hI
        rw [if_pos (by rfl)]
        subst hts
        simp only [putL, Act.put, List.getElem_toArray, List.getElem_cons_zero, List.getElem_cons_succ, List.setIfInBounds_toArray, List.set_cons_zero, List.set_cons_succ]
        have d5 : listed.getD 5 false = true := hall ⟨5, Ground.data⟩ (by simp) (by rfl)
        obtain rfl := h5 d5
        go_simp
        with_reducible refine (frac_any 6 3 (by omega) (by omega) (by omega) (by omega) W0.heap.size ra rn rc _ (HH.out.at HSJ.out)).mono ?_
        rintro e w99 ⟨x, y, hxy, rfl, hs, hap⟩
        have HH2 := Lib.hid (HH.out.call hs hap)
        have hk := hK.out _ _ ⟨t142, t143, t144, t145, t146, _, .agg #[.int .i64 x, .int .i64 y], t149, t150, t151, t152, t153, t154, t155, t156, t157, t158, t159, rfl, HH2, (fun hd => (keepV h0 (by decide) hd).apart hap), (keepV h1 (by decide)), (fun hd => (keepV h2 (by decide) hd).apart hap), (keepV h3 (by decide)), (keepV h4 (by decide)), (keepV h5 (by decide)), (fun _ => ⟨_, _, rfl⟩), (keepV h7 (by decide)), (keepV h8 (by decide)), (keepV h9 (by decide)), (keepV h10 (by decide)), (keepV h11 (by decide)), (keepV h12 (by decide)), (fun hd => (keepV h13 (by decide) hd).apart hap), (fun hd => (keepV h14 (by decide) hd).apart hap), (fun hd => (keepV h15 (by decide) hd).apart hap), (keepV h16 (by decide)), (keepV h17 (by decide))⟩
        simp only [putL, Act.put, List.getElem_toArray, List.getElem_cons_zero, List.getElem_cons_succ, List.setIfInBounds_toArray, List.set_cons_zero, List.set_cons_succ] at hk
        exact hk
      case s7 =>
        intro listed ts wx hall hI K hK
        obtain ⟨t142, t143, t144, t145, t146, t147, t148, t149, t150, t151, t152, t153, t154, t155, t156, t157, t158, t159, hts, HH, h0, h1, h2, h3, h4, h5, h6, h7, h8, h9, h10, h11, h12, h13, h14, h15, h16, h17⟩ := hI
        rw [if_pos (by rfl)]
        subst hts
        simp only [putL, Act.put, List.getElem_toArray, List.getElem_cons_zero, List.getElem_cons_succ, List.setIfInBounds_toArray, List.set_cons_zero, List.set_cons_succ]
        have d4 : listed.getD 4 false = true := hall ⟨4, Ground.data⟩ (by simp) (by rfl)
        obtain ⟨x, y, rfl⟩ := h4 d4
        have d6 : listed.getD 6 false = true := hall ⟨6, Ground.data⟩ (by simp) (by rfl)
        obtain ⟨x2, y2, rfl⟩ := h6 d6
        go_simp
        have hk := hK.out _ _ ⟨t142, t143, t144, t145, _, t147, _, .agg #[.int .i64 x, .int .i64 y, .int .i64 x2, .int .i64 y2], t150, t151, t152, t153, t154, t155, t156, t157, t158, t159, rfl, HH, (keepV h0 (by decide)), (keepV h1 (by decide)), (keepV h2 (by decide)), (keepV h3 (by decide)), (keepV h4 (by decide)), (keepV h5 (by decide)), (keepV h6 (by decide)), (fun _ => ⟨_, _, _, _, rfl⟩), (keepV h8 (by decide)), (keepV h9 (by decide)), (keepV h10 (by decide)), (keepV h11 (by decide)), (keepV h12 (by decide)), (keepV h13 (by decide)), (keepV h14 (by decide)), (keepV h15 (by decide)), (keepV h16 (by decide)), (keepV h17 (by decide))⟩
        simp only [putL, Act.put, List.getElem_toArray, List.getElem_cons_zero, List.getElem_cons_succ, List.setIfInBounds_toArray, List.set_cons_zero, List.set_cons_succ] at hk
        exact hk
      case s8 =>
        intro listed ts wx hall hI K hK
        obtain ⟨t142, t143, t144, t145, t146, t147, t148, t149, t150, t151, t152, t153, t154, t155, t156, t157, t158, t159, hts, HH, h0, h1, h2, h3, h4, h5, h6, h7, h8, h9, h10, h11, h12, h13, h14, h15, h16, h17⟩ := hI
        rw [if_pos (by rfl)]
        subst hts
        simp only [putL, Act.put, List.getElem_toArray, List.getElem_cons_zero, List.getElem_cons_succ, List.setIfInBounds_toArray, List.set_cons_zero, List.set_cons_succ]
        go_simp
        have hk := hK.out _ _ ⟨t142, t143, t144, t145, t146, t147, t148, t149, _, t151, t152, t153, t154, t155, t156, t157, t158, t159, rfl, HH, (keepV h0 (by decide)), (keepV h1 (by decide)), (keepV h2 (by decide)), (keepV h3 (by decide)), (keepV h4 (by decide)), (keepV h5 (by decide)), (keepV h6 (by decide)), (keepV h7 (by decide)), (fun _ => rfl), (keepV h9 (by decide)), (keepV h10 (by decide)), (keepV h11 (by decide)), (keepV h12 (by decide)), (keepV h13 (by decide)), (keepV h14 (by decide)), (keepV h15 (by decide)), (keepV h16 (by decide)), (keepV h17 (by decide))⟩
        simp only [putL, Act.put, List.getElem_toArray, List.getElem_cons_zero, List.getElem_cons_succ, List.setIfInBounds_toArray, List.set_cons_zero, List.set_cons_succ] at hk
        exact hk
      case s9 =>
        intro listed ts wx hall hI K hK
        obtain ⟨t142, t143, t144, t145, t146, t147, t148, t149, t150, t151, t152, t153, t154, t155, t156, t157, t158, t159, hts, HH, h0, h1, h2, h3, h4, h5, h6, h7, h8, h9, h10, h11, h12, h13, h14, h15, h16, h17⟩ := hI
        rw [if_pos (by rfl)]
        subst hts
        simp only [putL, Act.put, List.getElem_toArray, List.getElem_cons_zero, List.getElem_cons_succ, List.setIfInBounds_toArray, List.set_cons_zero, List.set_cons_succ]
        have d8 : listed.getD 8 false = true := hall ⟨8, Ground.data⟩ (by simp) (by rfl)
        obtain rfl := h8 d8
        go_simp
        with_reducible refine (frac_any 30 2 (by omega) (by omega) (by omega) (by omega) W0.heap.size ra rn rc _ (HH.out.at HSJ.out)).mono ?_
        rintro e w99 ⟨x, y, hxy, rfl, hs, hap⟩
        have HH2 := Lib.hid (HH.out.call hs hap)
        have hk := hK.out _ _ ⟨t142, t143, t144, t145, t146, t147, t148, t149, _, .agg #[.int .i64 x, .int .i64 y], t152, t153, t154, t155, t156, t157, t158, t159, rfl, HH2, (fun hd => (keepV h0 (by decide) hd).apart hap), (keepV h1 (by decide)), (fun hd => (keepV h2 (by decide) hd).apart hap), (keepV h3 (by decide)), (keepV h4 (by decide)), (keepV h5 (by decide)), (keepV h6 (by decide)), (keepV h7 (by decide)), (keepV h8 (by decide)), (fun _ => ⟨_, _, rfl⟩), (keepV h10 (by decide)), (keepV h11 (by decide)), (keepV h12 (by decide)), (fun hd => (keepV h13 (by decide) hd).apart hap), (fun hd => (keepV h14 (by decide) hd).apart hap), (fun hd => (keepV h15 (by decide) hd).apart hap), (keepV h16 (by decide)), (keepV h17 (by decide))⟩
        simp only [putL, Act.put, List.getElem_toArray, List.getElem_cons_zero, List.getElem_cons_succ, List.setIfInBounds_toArray, List.set_cons_zero, List.set_cons_succ] at hk
        exact hk
      case s10 =>
        intro listed ts wx hall hI K hK
        obtain ⟨t142, t143, t144, t145, t146, t147, t148, t149, t150, t151, t152, t153, t154, t155, t156, t157, t158, t159, hts, HH, h0, h1, h2, h3, h4, h5, h6, h7, h8, h9, h10, h11, h12, h13, h14, h15, h16, h17⟩ := hI
        rw [if_pos (by rfl)]
        subst hts
        simp only [putL, Act.put, List.getElem_toArray, List.getElem_cons_zero, List.getElem_cons_succ, List.setIfInBounds_toArray, List.set_cons_zero, List.set_cons_succ]
        go_simp
        have hk := hK.out _ _ ⟨t142, t143, t144, t145, t146, t147, t148, t149, t150, t151, _, t153, t154, t155, t156, t157, t158, t159, rfl, HH, (keepV h0 (by decide)), (keepV h1 (by decide)), (keepV h2 (by decide)), (keepV h3 (by decide)), (keepV h4 (by decide)), (keepV h5 (by decide)), (keepV h6 (by decide)), (keepV h7 (by decide)), (keepV h8 (by decide)), (keepV h9 (by decide)), (fun _ => rfl), (keepV h11 (by decide)), (keepV h12 (by decide)), (keepV h13 (by decide)), (keepV h14 (by decide)), (keepV h15 (by decide)), (keepV h16 (by decide)), (keepV h17 (by decide))⟩
        simp only [putL, Act.put, List.getElem_toArray, List.getElem_cons_zero, List.getElem_cons_succ, List.setIfInBounds_toArray, List.set_cons_zero, List.set_cons_succ] at hk
        exact hk
      case s11 =>
        intro listed ts wx hall hI K hK
        obtain ⟨t142, t143, t144, t145, t146, t147, t148, t149, t150, t151, t152, t153, t154, t155, t156, t157, t158, t159, hts, HH, h0, h1, h2, h3, h4, h5, h6, h7, h8, h9, h10, h11, h12, h13, h14, h15, h16, h17⟩ := hI
        rw [if_pos (by rfl)]
        subst hts
        simp only [putL, Act.put, List.getElem_toArray, List.getElem_cons_zero, List.getElem_cons_succ, List.setIfInBounds_toArray, List.set_cons_zero, List.set_cons_succ]
        have d10 : listed.getD 10 false = true := hall ⟨10, Ground.data⟩ (by simp) (by rfl)
        obtain rfl := h10 d10
        go_simp
        with_reducible refine (frac_any 6 4 (by omega) (by omega) (by omega) (by omega) W0.heap.size ra rn rc _ (HH.out.at HSJ.out)).mono ?_
        rintro e w99 ⟨x, y, hxy, rfl, hs, hap⟩
        have HH2 := Lib.hid (HH.out.call hs hap)
        have hk := hK.out _ _ ⟨t142, t143, t144, t145, t146, t147, t148, t149, t150, t151, _, .agg #[.int .i64 x, .int .i64 y], t154, t155, t156, t157, t158, t159, rfl, HH2, (fun hd => (keepV h0 (by decide) hd).apart hap), (keepV h1 (by decide)), (fun hd => (keepV h2 (by decide) hd).apart hap), (keepV h3 (by decide)), (keepV h4 (by decide)), (keepV h5 (by decide)), (keepV h6 (by decide)), (keepV h7 (by decide)), (keepV h8 (by decide)), (keepV h9 (by decide)), (keepV h10 (by decide)), (fun _ => ⟨_, _, rfl⟩), (keepV h12 (by decide)), (fun hd => (keepV h13 (by decide) hd).apart hap), (fun hd => (keepV h14 (by decide) hd).apart hap), (fun hd => (keepV h15 (by decide) hd).apart hap), (keepV h16 (by decide)), (keepV h17 (by decide))⟩
        simp only [putL, Act.put, List.getElem_toArray, List.getElem_cons_zero, List.getElem_cons_succ, List.setIfInBounds_toArray, List.set_cons_zero, List.set_cons_succ] at hk
        exact hk
      case s12 =>
        intro listed ts wx hall hI K hK
        obtain ⟨t142, t143, t144, t145, t146, t147, t148, t149, t150, t151, t152, t153, t154, t155, t156, t157, t158, t159, hts, HH, h0, h1, h2, h3, h4, h5, h6, h7, h8, h9, h10, h11, h12, h13, h14, h15, h16, h17⟩ := hI
        rw [if_pos (by rfl)]
        subst hts
        simp only [putL, Act.put, List.getElem_toArray, List.getElem_cons_zero, List.getElem_cons_succ, List.setIfInBounds_toArray, List.set_cons_zero, List.set_cons_succ]
        have d9 : listed.getD 9 false = true := hall ⟨9, Ground.data⟩ (by simp) (by rfl)
        obtain ⟨x, y, rfl⟩ := h9 d9
        have d11 : listed.getD 11 false = true := hall ⟨11, Ground.data⟩ (by simp) (by rfl)
        obtain ⟨x2, y2, rfl⟩ := h11 d11
        go_simp
        have hk := hK.out _ _ ⟨t142, t143, t144, t145, t146, t147, t148, t149, t150, _, t152, _, .agg #[.int .i64 x, .int .i64 y, .int .i64 x2, .int .i64 y2], t155, t156, t157, t158, t159, rfl, HH, (keepV h0 (by decide)), (keepV h1 (by decide)), (keepV h2 (by decide)), (keepV h3 (by decide)), (keepV h4 (by decide)), (keepV h5 (by decide)), (keepV h6 (by decide)), (keepV h7 (by decide)), (keepV h8 (by decide)), (keepV h9 (by decide)), (keepV h10 (by decide)), (keepV h11 (by decide)), (fun _ => ⟨_, _, _, _, rfl⟩), (keepV h13 (by decide)), (keepV h14 (by decide)), (keepV h15 (by decide)), (keepV h16 (by decide)), (keepV h17 (by decide))⟩
        simp only [putL, Act.put, List.getElem_toArray, List.getElem_cons_zero, List.getElem_cons_succ, List.setIfInBounds_toArray, List.set_cons_zero, List.set_cons_succ] at hk
        exact hk
      case s13 =>
        intro listed ts wx hall hI K hK
        obtain ⟨t142, t143, t144, t145, t146, t147, t148, t149, t150, t151, t152, t153, t154, t155, t156, t157, t158, t159, hts, HH, h0, h1, h2, h3, h4, h5, h6, h7, h8, h9, h10, h11, h12, h13, h14, h15, h16, h17⟩ := hI
        rw [if_pos (by rfl)]
        subst hts
        simp only [putL, Act.put, List.getElem_toArray, List.getElem_cons_zero, List.getElem_cons_succ, List.setIfInBounds_toArray, List.set_cons_zero, List.set_cons_succ]
        have d7 : listed.getD 7 false = true := hall ⟨7, Ground.data⟩ (by simp) (by rfl)
        obtain ⟨xa1, xb1, xc1, xd1, rfl⟩ := h7 d7
        have d12 : listed.getD 12 false = true := hall ⟨12, Ground.data⟩ (by simp) (by rfl)
        obtain ⟨xa2, xb2, xc2, xd2, rfl⟩ := h12 d12
        have hlt := HH.out.lt
        go_simp
        have HH2 := Lib.hid (HH.out.alloc (.cells #[.int .i64 xa1, .int .i64 xb1, .int .i64 xc1, .int .i64 xd1, .int .i64 xa2, .int .i64 xb2, .int .i64 xc2, .int .i64 xd2] 46))
        have hap := (Apart.refl W0.heap.size wx).alloc (.cells #[.int .i64 xa1, .int .i64 xb1, .int .i64 xc1, .int .i64 xd1, .int .i64 xa2, .int .i64 xb2, .int .i64 xc2, .int .i64 xd2] 46)
        have hk := hK.out _ _ ⟨t142, t143, t144, t145, t146, t147, t148, _, t150, t151, t152, t153, _, _, t156, t157, t158, t159, rfl, HH2, (fun hd => (keepV h0 (by decide) hd).apart hap), (keepV h1 (by decide)), (fun hd => (keepV h2 (by decide) hd).apart hap), (keepV h3 (by decide)), (keepV h4 (by decide)), (keepV h5 (by decide)), (keepV h6 (by decide)), (keepV h7 (by decide)), (keepV h8 (by decide)), (keepV h9 (by decide)), (keepV h10 (by decide)), (keepV h11 (by decide)), (keepV h12 (by decide)), (fun _ => ⟨some ⟨wx.heap.size, 0, none⟩, rfl, IsB.block (rowC_two wx ⟨xa1, xb1, xc1, xd1⟩ ⟨xa2, xb2, xc2, xd2⟩ 46) (Nat.ne_of_gt hlt) rfl (by omega) (by omega)⟩), (fun hd => (keepV h14 (by decide) hd).apart hap), (fun hd => (keepV h15 (by decide) hd).apart hap), (keepV h16 (by decide)), (keepV h17 (by decide))⟩
        simp only [putL, Act.put, List.getElem_toArray, List.getElem_cons_zero, List.getElem_cons_succ, List.setIfInBounds_toArray, List.set_cons_zero, List.set_cons_succ] at hk
        exact hk
      case s14 =>
        intro listed ts wx hall hI K hK
        obtain ⟨t142, t143, t144, t145, t146, t147, t148, t149, t150, t151, t152, t153, t154, t155, t156, t157, t158, t159, hts, HH, h0, h1, h2, h3, h4, h5, h6, h7, h8, h9, h10, h11, h12, h13, h14, h15, h16, h17⟩ := hI
        rw [if_pos (by rfl)]
        subst hts
        simp only [putL, Act.put, List.getElem_toArray, List.getElem_cons_zero, List.getElem_cons_succ, List.setIfInBounds_toArray, List.set_cons_zero, List.set_cons_succ]
        go_simp
        have hk := hK.out _ _ ⟨t142, t143, t144, t145, t146, t147, t148, t149, t150, t151, t152, t153, t154, t155, _, t157, t158, t159, rfl, HH, (keepV h0 (by decide)), (keepV h1 (by decide)), (keepV h2 (by decide)), (keepV h3 (by decide)), (keepV h4 (by decide)), (keepV h5 (by decide)), (keepV h6 (by decide)), (keepV h7 (by decide)), (keepV h8 (by decide)), (keepV h9 (by decide)), (keepV h10 (by decide)), (keepV h11 (by decide)), (keepV h12 (by decide)), (keepV h13 (by decide)), (fun _ => ⟨rfl, LB.out.apart HH.out.ap⟩), (keepV h15 (by decide)), (keepV h16 (by decide)), (keepV h17 (by decide))⟩
        simp only [putL, Act.put, List.getElem_toArray, List.getElem_cons_zero, List.getElem_cons_succ, List.setIfInBounds_toArray, List.set_cons_zero, List.set_cons_succ] at hk
        exact hk
      case s15 =>
        intro listed ts wx hall hI K hK
        obtain ⟨t142, t143, t144, t145, t146, t147, t148, t149, t150, t151, t152, t153, t154, t155, t156, t157, t158, t159, hts, HH, h0, h1, h2, h3, h4, h5, h6, h7, h8, h9, h10, h11, h12, h13, h14, h15, h16, h17⟩ := hI
        rw [if_pos (by rfl)]
        subst hts
        simp only [putL, Act.put, List.getElem_toArray, List.getElem_cons_zero, List.getElem_cons_succ, List.setIfInBounds_toArray, List.set_cons_zero, List.set_cons_succ]
        have d0 : listed.getD 0 false = true := hall ⟨0, Ground.data⟩ (by simp) (by rfl)
        obtain ⟨rfl, hI0⟩ := h0 d0
        have d2 : listed.getD 2 false = true := hall ⟨2, Ground.data⟩ (by simp) (by rfl)
        obtain ⟨A2, rfl, hI2⟩ := h2 d2
        have d13 : listed.getD 13 false = true := hall ⟨13, Ground.data⟩ (by simp) (by rfl)
        obtain ⟨A18, rfl, hI18⟩ := h13 d13
        have d14 : listed.getD 14 false = true := hall ⟨14, Ground.data⟩ (by simp) (by rfl)
        obtain ⟨rfl, hI19⟩ := h14 d14
        have hlt := HH.out.lt
        go_simp
        have HH2 := Lib.hid (HH.out.alloc (.cells #[.slice A9 n9 c9, .slice none 0 0, .slice A2 1 1, .slice A18 2 2, .slice (some ⟨G, 0, none⟩) m m] 49))
        have hap := (Apart.refl W0.heap.size wx).alloc (.cells #[.slice A9 n9 c9, .slice none 0 0, .slice A2 1 1, .slice A18 2 2, .slice (some ⟨G, 0, none⟩) m m] 49)
        have hk := hK.out _ _ ⟨_, t143, _, t145, t146, t147, t148, t149, t150, t151, t152, t153, t154, _, _, _, t158, t159, rfl, HH2, (fun hd => (keepV h0 (by decide) hd).apart hap), (keepV h1 (by decide)), (fun hd => (keepV h2 (by decide) hd).apart hap), (keepV h3 (by decide)), (keepV h4 (by decide)), (keepV h5 (by decide)), (keepV h6 (by decide)), (keepV h7 (by decide)), (keepV h8 (by decide)), (keepV h9 (by decide)), (keepV h10 (by decide)), (keepV h11 (by decide)), (keepV h12 (by decide)), (fun hd => (keepV h13 (by decide) hd).apart hap), (fun hd => (keepV h14 (by decide) hd).apart hap), (fun _ => ⟨wx.heap.size, rfl, Nat.ne_of_gt hlt, sb5_new hI0 (.inl rfl) hI2 hI18 hI19 _⟩), (keepV h16 (by decide)), (keepV h17 (by decide))⟩
        simp only [putL, Act.put, List.getElem_toArray, List.getElem_cons_zero, List.getElem_cons_succ, List.setIfInBounds_toArray, List.set_cons_zero, List.set_cons_succ] at hk
        exact hk
      case s16 =>
        intro listed ts wx hall hI K hK
        obtain ⟨t142, t143, t144, t145, t146, t147, t148, t149, t150, t151, t152, t153, t154, t155, t156, t157, t158, t159, hts, HH, h0, h1, h2, h3, h4, h5, h6, h7, h8, h9, h10, h11, h12, h13, h14, h15, h16, h17⟩ := hI
        rw [if_pos (by rfl)]
        subst hts
        simp only [putL, Act.put, List.getElem_toArray, List.getElem_cons_zero, List.getElem_cons_succ, List.setIfInBounds_toArray, List.set_cons_zero, List.set_cons_succ]
        have d15 : listed.getD 15 false = true := hall ⟨15, Ground.data⟩ (by simp) (by rfl)
        obtain ⟨T2, rfl, hT2, hT3⟩ := h15 d15
        go_simp
        have hk := hK.out _ _ ⟨t142, t143, t144, t145, t146, t147, t148, t149, t150, t151, t152, t153, t154, t155, t156, _, _, t159, rfl, HH, (keepV h0 (by decide)), (keepV h1 (by decide)), (keepV h2 (by decide)), (keepV h3 (by decide)), (keepV h4 (by decide)), (keepV h5 (by decide)), (keepV h6 (by decide)), (keepV h7 (by decide)), (keepV h8 (by decide)), (keepV h9 (by decide)), (keepV h10 (by decide)), (keepV h11 (by decide)), (keepV h12 (by decide)), (keepV h13 (by decide)), (keepV h14 (by decide)), (keepV h15 (by decide)), (fun _ => rfl), (keepV h17 (by decide))⟩
        simp only [putL, Act.put, List.getElem_toArray, List.getElem_cons_zero, List.getElem_cons_succ, List.setIfInBounds_toArray, List.set_cons_zero, List.set_cons_succ] at hk
        exact hk
      case s17 =>
        intro listed ts wx hall hI K hK
        obtain ⟨t142, t143, t144, t145, t146, t147, t148, t149, t150, t151, t152, t153, t154, t155, t156, t157, t158, t159, hts, HH, h0, h1, h2, h3, h4, h5, h6, h7, h8, h9, h10, h11, h12, h13, h14, h15, h16, h17⟩ := hI
        rw [if_pos (by rfl)]
        subst hts
        simp only [putL, Act.put, List.getElem_toArray, List.getElem_cons_zero, List.getElem_cons_succ, List.setIfInBounds_toArray, List.set_cons_zero, List.set_cons_succ]
        go_simp
        have hk := hK.out _ _ ⟨t142, t143, t144, t145, t146, t147, t148, t149, t150, t151, t152, t153, t154, t155, t156, t157, t158, _, rfl, HH, (keepV h0 (by decide)), (keepV h1 (by decide)), (keepV h2 (by decide)), (keepV h3 (by decide)), (keepV h4 (by decide)), (keepV h5 (by decide)), (keepV h6 (by decide)), (keepV h7 (by decide)), (keepV h8 (by decide)), (keepV h9 (by decide)), (keepV h10 (by decide)), (keepV h11 (by decide)), (keepV h12 (by decide)), (keepV h13 (by decide)), (keepV h14 (by decide)), (keepV h15 (by decide)), (keepV h16 (by decide)), (fun _ => rfl)⟩
        simp only [putL, Act.put, List.getElem_toArray, List.getElem_cons_zero, List.getElem_cons_succ, List.setIfInBounds_toArray, List.set_cons_zero, List.set_cons_succ] at hk
        exact hk
    case hdone =>
      intro listed ts wx hA hI
      obtain ⟨t142, t143, t144, t145, t146, t147, t148, t149, t150, t151, t152, t153, t154, t155, t156, t157, t158, t159, rfl, HH, h0, h1, h2, h3, h4, h5, h6, h7, h8, h9, h10, h11, h12, h13, h14, h15, h16, h17⟩ := hI
      obtain ⟨T2, rfl, hT2, hT3⟩ := h15 (hA 15 (by decide))
      obtain rfl := h16 (hA 16 (by decide))
      obtain rfl := h17 (hA 17 (by decide))
      simp only [putL, Act.put, List.getElem_toArray, List.getElem_cons_zero, List.getElem_cons_succ, List.setIfInBounds_toArray, List.set_cons_zero, List.set_cons_succ]
      try go_wp2_with fail
      go_meet
      exact ⟨T2, rfl, rfl, rfl, hT2, hT3, HH⟩
  case rest =>
  obtain ⟨T3, rfl, rfl, rfl, hT3, HT7, HD7⟩ := hcut
  obtain ⟨w7, rfl⟩ : ∃ u : World, u = wc := ⟨_, rfl⟩
  clear HDZ LJ LB XJ HS6
  go_wp2_with fail
  go_loopw [159] (fun s wx => ∃ k : Nat, s = .int .i64 k ∧ k ≤ 5 ∧ Hid (Held wj W0.heap.size ra rn rc wx) ∧ Hid (Sb5 W0.heap.size wx T3)) (fun s _ => 5 - (intOf s).toNat)
  case atStart => exact ⟨0, by go_num, by omega, HD7, HT7⟩
  case round =>
  obtain ⟨k, rfl, hk, HDk, HTk⟩ := hrel
  obtain ⟨wk, rfl⟩ : ∃ u : World, u = wr := ⟨_, rfl⟩
  clear HD7 HT7
  by_cases hk3 : k < 5
  · have hki : (k : Int) < 5 := by omega
    obtain ⟨A, na, ca, hc, hI⟩ := HTk.out k hk3
    obtain ⟨r, hp, hd⟩ := hI.least
    have HP := Lib.hid hp
    have HDC := Lib.hid hd
    clear hp hd hI
    have HB8 := Lib.hid (Below.refl wk.heap.size wk)
    go_wp2_with fail
    clear hc
    refine (HP.out _ HB8.out).mono ?_
    rintro e y1 ⟨a1, n1, k1, rfl, hb, hr, hx⟩
    obtain ⟨v1, hw⟩ : ∃ w', y1.alloc (.cells #[.slice a1 n1 k1, .int .i64 r.p, .int .i64 r.inc] 38) = w' := ⟨_, rfl⟩
    have hz : Below wk.heap.size wk v1 := by rw [← hw]; exact hb.trans ((below_box _).mono hb.size)
    have HB8 := Lib.hid (HB8.out.trans (hz.mono HB8.out.size))
    have XV1 := Lib.hid (show Cur3 v1 y1.heap.size (.slice a1 n1 k1) (.int .i64 r.p) (.int .i64 r.inc) by rw [← hw]; exact Cur3.new _ _ _ _ _)
    have RV1 := Lib.hid (show RowZ v1 a1 n1 k1 r.zs by rw [← hw]; exact hr.under (below_box _))
    have HW := Lib.hid hw
    clear hw hz hb hr hx
    go_upto_region 31 with fail
    try rw [HW.out]
    obtain ⟨F1, hE⟩ : ∃ B, y1.heap.size = B := ⟨_, rfl⟩
    rw [hE] at XV1
    try rw [hE]
    clear HW hE
    go_wp2_with fail
    refine (HDC.out _ HB8.out).mono ?_
    rintro e y2 ⟨a2, n2, k2, rfl, hb, hr, hx⟩
    obtain ⟨v2, hw⟩ : ∃ w', y2.alloc (.cells #[.slice a2 n2 k2, .int .i64 r.p, .int .i64 r.inc] 38) = w' := ⟨_, rfl⟩
    have hz : Below v1.heap.size v1 v2 := by rw [← hw]; exact hb.trans ((below_box _).mono hb.size)
    have HB8 := Lib.hid (HB8.out.trans (hz.mono HB8.out.size))
    have XV2 := Lib.hid (show Cur3 v2 y2.heap.size (.slice a2 n2 k2) (.int .i64 r.p) (.int .i64 r.inc) by rw [← hw]; exact Cur3.new _ _ _ _ _)
    have RV2 := Lib.hid (show RowZ v2 a2 n2 k2 r.zs by rw [← hw]; exact hr.under (below_box _))
    have XV1 := Lib.hid (XV1.out.below hz)
    have RV1 := Lib.hid (RV1.out.under hz)
    have HW := Lib.hid hw
    clear hw hz hb hr hx
    go_upto_region 32 with fail
    try rw [HW.out]
    obtain ⟨F2, hE⟩ : ∃ B, y2.heap.size = B := ⟨_, rfl⟩
    rw [hE] at XV2
    try rw [hE]
    clear HW hE
    obtain ⟨d0, d1, d2, d3, d4, d5⟩ := XV1.out
    obtain ⟨e0, e1, e2, e3, e4, e5⟩ := XV2.out
    go_wp2_with fail
    clear d0 d1 d2 d3 d4 d5 e0 e1 e2 e3 e4 e5
    refine (rsame_any a1 n1 k1 r.zs r.p r.inc a2 n2 k2 r.zs r.p r.inc true (sameB_me _ _ _) _ RV1.out RV2.out).mono ?_
    rintro e y3 ⟨rfl, hb⟩
    have HB8 := Lib.hid (HB8.out.trans (hb.mono HB8.out.size))
    clear hb
    go_wp2_with fail
    go_roundw
    case rel => exact ⟨k + 1, by go_num, by omega, HDk.out.below HB8.out, HTk.out.under HB8.out⟩
    case measure => simp [intOf]; omega
  have hki : ¬ (k : Int) < 5 := by omega
  clear HTk
  have HBE := Lib.hid (show Below W.heap.size W wk from HBJ.out.trans (HDk.out.ap.below (by omega) HBJ.out.size))
  go_wp2_with fail
  refine (awake11 _).mono ?_
  rintro e z2 ⟨rfl, hb⟩
  have HBZ := Lib.hid (HBE.out.trans (hb.mono HBE.out.size))
  clear hb
  go_wp2_with fail
  go_ret
  exact ⟨rfl, HBZ.out⟩

end Go.Proofs.Ytjipmkgnndldpaa
