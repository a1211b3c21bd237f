/- The walk of PointwisePairs. By the verifier's side. -/
import Derived.Test.YtjipmkgnndldpaaIRWa
import Derived.Test.YtjipmkgnndldpaaIPrU
import Derived.Test.YtjipmkgnndldpaaIPwSPwU
namespace Go.Proofs.Ytjipmkgnndldpaa
open Go.RowKit
set_option linter.unusedSimpArgs false
set_option linter.unusedVariables false

set_option maxRecDepth 100000 in
set_option maxHeartbeats 6400000 in
theorem pointwisePairs_walk (W : World) (aR : Option Addr) (nR cR : Nat) (zR : List Int) (pR iR : Int) (aO : Option Addr) (nO cO : Nat) (zO : List Int) (pO iO : Int) (a : Option Addr) (n cap : Nat)
    (hR : nR ≤ 800 → RowZ W aR nR cR zR) (hpR : In64 pR) (hiR : In64 iR) (hO : nO ≤ 800 → RowZ W aO nO cO zO) (hpO : In64 pO) (hiO : In64 iO) (hrow : RowAt W a n cap) :
    Calls Try.prog 9 #[curV aR nR cR pR iR, curV aO nO cO pO iO, .slice a n cap] W fun e w' => e = .returned (.bool true) ∧ Below W.heap.size W w' := by
  have hR0 : ∀ {u : World}, Below W.heap.size W u → RowAt u a n cap := fun hb => RowAt.under hrow hb
  have HIR := Lib.hid (And.intro hpR hiR)
  have HIO := Lib.hid (And.intro hpO hiO)
  clear hrow hpR hiR hpO hiO
  go_enter Try.func9, Try.ntmps9
  have hB0 : Below W.heap.size W ((W.alloc (.cells #[.slice aR nR cR, .int .i64 pR, .int .i64 iR] 38)).alloc (.cells #[.slice aO nO cO, .int .i64 pO, .int .i64 iO] 38)) :=
    ((Below.refl _ _).alloc (Nat.le_refl _) _).alloc (by simp) _
  have HB0 := Lib.hid hB0
  have HR0 := Lib.hid (hR0 hB0)
  have K4 := Lib.hid ((Cur3.new W (.slice aR nR cR) (.int .i64 pR) (.int .i64 iR) 38).alloc (.cells #[.slice aO nO cO, .int .i64 pO, .int .i64 iO] 38))
  have K5 := Lib.hid (Cur3.new2 W (.slice aO nO cO) (.int .i64 pO) (.int .i64 iO) 38 (.cells #[.slice aR nR cR, .int .i64 pR, .int .i64 iR] 38))
  have HSZ := Lib.hid (show ((W.alloc (.cells #[.slice aR nR cR, .int .i64 pR, .int .i64 iR] 38)).alloc (.cells #[.slice aO nO cO, .int .i64 pO, .int .i64 iO] 38)).heap.size = W.heap.size + 1 + 1 by simp)
  have RR0 := Lib.hid (fun hh => (hR hh).under hB0)
  have RO0 := Lib.hid (fun hh => (hO hh).under hB0)
  clear hB0 hR0 hR hO
  go_wp2_with fail
  generalize (W.alloc (.cells #[.slice aR nR cR, .int .i64 pR, .int .i64 iR] 38)).alloc (.cells #[.slice aO nO cO, .int .i64 pO, .int .i64 iO] 38) = w0 at HB0 HR0 K4 K5 HSZ RR0 RO0 ⊢
  obtain ⟨b1, hb1⟩ : ∃ b, decide (nR ≤ 800) = b := ⟨_, rfl⟩
  have HS1 := Lib.hid hb1
  refine (small_any aR nR cR pR iR b1 HS1.out _).mono ?_
  rintro e w1 ⟨rfl, hw1⟩
  have HB1 := Lib.hid (HB0.out.trans (hw1.mono HB0.out.size))
  have HW1 := Lib.hid hw1
  clear hb1 hw1
  cases b1 with
  | false =>
    go_wp2_with fail
    refine (awake5 _).mono ?_
    rintro e w2 ⟨rfl, hw2⟩
    have HB2 := Lib.hid (HB1.out.trans (hw2.mono HB1.out.size))
    go_wp2_with fail
    go_ret
    exact ⟨rfl, HB2.out⟩
  | true =>
    have K5' := K5.out.below HW1.out
    obtain ⟨c0, c1, c2, f0, f1, f2⟩ := K5'
    go_wp2_with fail
    obtain ⟨b2, hb2⟩ : ∃ b, decide (nO ≤ 800) = b := ⟨_, rfl⟩
    have HS2 := Lib.hid hb2
    refine (small_any aO nO cO pO iO b2 HS2.out _).mono ?_
    rintro e w2 ⟨rfl, hw2⟩
    have HB2 := Lib.hid (HB1.out.trans (hw2.mono HB1.out.size))
    have HW2 := Lib.hid (HW1.out.trans (hw2.mono HW1.out.size))
    clear hb2 hw2 c0 c1 c2 f0 f1 f2
    cases b2 with
    | false =>
      go_wp2_with fail
      refine (awake5 _).mono ?_
      rintro e w3 ⟨rfl, hw3⟩
      have HB3 := Lib.hid (HB2.out.trans (hw3.mono HB2.out.size))
      go_wp2_with fail
      go_ret
      exact ⟨rfl, HB3.out⟩
    | true =>
      have hnR : nR ≤ 800 := by simpa using HS1.out
      have hnO : nO ≤ 800 := by simpa using HS2.out
      have HNN := Lib.hid (And.intro hnR hnO)
      clear hnR hnO HS1 HS2
      go_wp2_with fail
      refine (new_any a n cap _ (HR0.out.under HW2.out)).mono ?_
      rintro e w3 ⟨rfl, hb3, hz3, ra, rn, rc, hs3⟩
      have HB3 := Lib.hid (HB2.out.trans (hb3.mono HB2.out.size))
      have HW3 := Lib.hid (HW2.out.trans (hb3.mono HW2.out.size))
      have HS3 := Lib.hid hs3
      have hbW : W.heap.size ≤ w2.heap.size := HB2.out.size
      have hb0 : w0.heap.size ≤ w2.heap.size := HW2.out.size
      have HZ0 := Lib.hid (And.intro hbW hb0)
      have CR := Lib.hid (show CurIn w3 w2.heap.size aR nR cR zR pR iR from (CurIn.old (RR0.out HNN.out.1) HIR.out.1 HIR.out.2 hb0).below HW3.out)
      have CO := Lib.hid (show CurIn w3 w2.heap.size aO nO cO zO pO iO from (CurIn.old (RO0.out HNN.out.2) HIO.out.1 HIO.out.2 hb0).below HW3.out)
      have K4' := Lib.hid (K4.out.below HW3.out)
      have K5' := Lib.hid (K5.out.below HW3.out)
      have h4b : ¬ W.heap.size = w2.heap.size := by have := HSZ.out; omega
      have h5b : ¬ W.heap.size + 1 = w2.heap.size := by have := HSZ.out; omega
      clear hb3 hz3 hs3 hbW hb0 RR0 RO0 K4 K5 HR0 HB2 HB1 HB0 HW1 HW2
      generalize w2.heap.size = b at *
      go_wp2_with fail
      refine (curve_any 9 (by omega) (by omega) _ ra rn rc _ HS3.out).mono ?_
      rintro e w4 ⟨a1, n1, cap1, zs, p, inc, rfl, hs4, he4, hr4, ok4, hx4⟩
      have HS4 := Lib.hid hs4
      have HB4 := Lib.hid (HB3.out.trans (he4.below HZ0.out.1 HB3.out.size))
      have C1 := Lib.hid (show CurIn w4 b a1 n1 cap1 zs p inc from ⟨hr4, by have := ok4.p8; exact ⟨by omega, by omega⟩, by have := ok4.inc; have := ok4.good.i0; exact ⟨by omega, by omega⟩, fun _ x hx => by have := hx4 x hx; have := HS3.out.lt; omega⟩)
      have OK1 := Lib.hid ok4
      have E4 := Lib.hid he4
      clear hs4 he4 hr4 ok4 hx4
      go_wp2_with fail
      refine (curve_any 9 (by omega) (by omega) _ ra rn rc _ HS4.out).mono ?_
      rintro e w5 ⟨a2, n2, cap2, ys, q, jnc, rfl, hs5, he5, hr5, ok5, hx5⟩
      have HS5 := Lib.hid hs5
      have HB5 := Lib.hid (HB4.out.trans (he5.below HZ0.out.1 HB4.out.size))
      have C2 := Lib.hid (show CurIn w5 b a2 n2 cap2 ys q jnc from ⟨hr5, by have := ok5.p8; exact ⟨by omega, by omega⟩, by have := ok5.inc; have := ok5.good.i0; exact ⟨by omega, by omega⟩, fun _ x hx => by have := hx5 x hx; have := HS4.out.lt; omega⟩)
      have OK2 := Lib.hid ok5
      have E5 := Lib.hid (E4.out.trans he5)
      have E45 := Lib.hid he5
      clear hs5 he5 hr5 ok5 hx5
      go_wp2_with fail
      have hz5 : w0.heap.size ≤ w5.heap.size := by have := HZ0.out.2; have := HS5.out.lt; omega
      have C1' := Lib.hid (((C1.out.apart E45.out).below ((Below.refl _ _).alloc (Nat.le_refl _) (.cells #[.slice a1 n1 cap1, .int .i64 p, .int .i64 inc] 38))).below ((Below.refl _ _).alloc (Nat.le_refl _) (.cells #[.slice a2 n2 cap2, .int .i64 q, .int .i64 jnc] 38)))
      have C2' := Lib.hid ((C2.out.below ((Below.refl _ _).alloc (Nat.le_refl _) (.cells #[.slice a1 n1 cap1, .int .i64 p, .int .i64 inc] 38))).below ((Below.refl _ _).alloc (Nat.le_refl _) (.cells #[.slice a2 n2 cap2, .int .i64 q, .int .i64 jnc] 38)))
      have CR' := Lib.hid (((CR.out.apart E5.out).below ((Below.refl _ _).alloc (Nat.le_refl _) (.cells #[.slice a1 n1 cap1, .int .i64 p, .int .i64 inc] 38))).below ((Below.refl _ _).alloc (Nat.le_refl _) (.cells #[.slice a2 n2 cap2, .int .i64 q, .int .i64 jnc] 38)))
      have CO' := Lib.hid (((CO.out.apart E5.out).below ((Below.refl _ _).alloc (Nat.le_refl _) (.cells #[.slice a1 n1 cap1, .int .i64 p, .int .i64 inc] 38))).below ((Below.refl _ _).alloc (Nat.le_refl _) (.cells #[.slice a2 n2 cap2, .int .i64 q, .int .i64 jnc] 38)))
      have HS6 := Lib.hid ((HS5.out.under ((Below.refl _ _).alloc (Nat.le_refl _) (.cells #[.slice a1 n1 cap1, .int .i64 p, .int .i64 inc] 38))).under ((Below.refl _ _).alloc (Nat.le_refl _) (.cells #[.slice a2 n2 cap2, .int .i64 q, .int .i64 jnc] 38)))
      have HB6 := Lib.hid ((HB5.out.alloc HB5.out.size (.cells #[.slice a1 n1 cap1, .int .i64 p, .int .i64 inc] 38)).alloc (HB5.out.alloc HB5.out.size (.cells #[.slice a1 n1 cap1, .int .i64 p, .int .i64 inc] 38)).size (.cells #[.slice a2 n2 cap2, .int .i64 q, .int .i64 jnc] 38))
      have B4 := Lib.hid (((K4'.out.apart E5.out h4b).alloc (.cells #[.slice a1 n1 cap1, .int .i64 p, .int .i64 inc] 38)).alloc (.cells #[.slice a2 n2 cap2, .int .i64 q, .int .i64 jnc] 38))
      have B5 := Lib.hid (((K5'.out.apart E5.out h5b).alloc (.cells #[.slice a1 n1 cap1, .int .i64 p, .int .i64 inc] 38)).alloc (.cells #[.slice a2 n2 cap2, .int .i64 q, .int .i64 jnc] 38))
      have B10 := Lib.hid ((Cur3.new w5 (.slice a1 n1 cap1) (.int .i64 p) (.int .i64 inc) 38).alloc (.cells #[.slice a2 n2 cap2, .int .i64 q, .int .i64 jnc] 38))
      have B11 := Lib.hid (Cur3.new2 w5 (.slice a2 n2 cap2) (.int .i64 q) (.int .i64 jnc) 38 (.cells #[.slice a1 n1 cap1, .int .i64 p, .int .i64 inc] 38))
      have h10b : ¬ w5.heap.size = b := by have := HS5.out.lt; omega
      have h11b : ¬ w5.heap.size + 1 = b := by have := HS5.out.lt; omega
      clear hz5 CR CO C1 C2 K4' K5' HS3 HS4 HW3 E5 E45 E4 HB5 HB4 HB3
      generalize (w5.alloc (.cells #[.slice a1 n1 cap1, .int .i64 p, .int .i64 inc] 38)).alloc (.cells #[.slice a2 n2 cap2, .int .i64 q, .int .i64 jnc] 38) = w6 at *
      have hn1 : 1 ≤ n1 ∧ n1 ≤ 16 := by have := ok_pos OK1.out; have := OK1.out.few; have := C1'.out.row.len; omega
      have hn2 : 1 ≤ n2 ∧ n2 ≤ 16 := by have := ok_pos OK2.out; have := OK2.out.few; have := C2'.out.row.len; omega
      have P1 := Lib.hid (show (-2000 ≤ (p : Int) ∧ (p : Int) ≤ 2000) ∧ (-4294967296 ≤ inc ∧ inc ≤ 4294967296) from by have := OK1.out.p8; have := OK1.out.inc; have := OK1.out.good.i0; omega)
      have P2 := Lib.hid (show (-2000 ≤ (q : Int) ∧ (q : Int) ≤ 2000) ∧ (-4294967296 ≤ jnc ∧ jnc ≤ 4294967296) from by have := OK2.out.p8; have := OK2.out.inc; have := OK2.out.good.i0; omega)
      have D1 := Lib.hid (ok_bd OK1.out)
      have D2 := Lib.hid (ok_bd OK2.out)
      have hbl6 := HS6.out.lt
      refine (curve_any 4 (by omega) (by omega) b ra rn rc _ HS6.out).mono ?_
      rintro e w7 ⟨a3, n3, cap3, zs3, p3, inc3, rfl, hs7, he7, hr7, ok7, hx7⟩
      have HD7 := Lib.hid ((Held.start HS6.out).call hs7 he7)
      have OK7 := Lib.hid ok7
      have C7 := Lib.hid (show CurIn w7 b a3 n3 cap3 zs3 p3 inc3 from ⟨hr7, by have := ok7.p8; exact ⟨by omega, by omega⟩, by have := ok7.inc; have := ok7.good.i0; exact ⟨by omega, by omega⟩, fun _ x hx => by have := hx7 x hx; omega⟩)
      clear hs7 he7 hr7 ok7 hx7
      have hb7 := HD7.out.lt
      go_wp2_with fail
      refine (pick_of Tms (fun _ h => h.in64) w7.heap.size 3 3 (by omega) (by omega) b (Nat.ne_of_gt hb7) ra rn rc _ ((HD7.out.alloc _).at HS6.out) (list_newP Tms w7 [7, 11, 30] 3 (by unfold Tms; decide))).mono ?_
      rintro e w8 ⟨z, hz, rfl, hs8, ha8⟩
      have HD8 := Lib.hid ((HD7.out.alloc _).call hs8 ha8)
      have C8 := Lib.hid ((C7.out.below (below_box _)).apart ha8)
      have HZT := Lib.hid hz
      clear hs8 ha8 hz C7
      go_wp2_with fail
      refine (longer_any6 (b := b) a3 n3 cap3 zs3 p3 inc3 OK7.out HZT.out _ HD8.out.lt C8.out).mono ?_
      rintro e wL ⟨hb, ya, yn, yc, yz, yp, yi, rfl, hCy⟩
      obtain ⟨w9, hw⟩ : ∃ w', wL.alloc (.cells #[.slice ya yn yc, .int .i64 yp, .int .i64 yi] 38) = w' := ⟨_, rfl⟩
      have hz : Below wL.heap.size wL w9 := by rw [← hw]; exact below_box _
      have HD9 := Lib.hid ((HD8.out.below hb).below hz)
      have BY := Lib.hid (show Cur3 w9 wL.heap.size (.slice ya yn yc) (.int .i64 yp) (.int .i64 yi) by rw [← hw]; exact Cur3.new _ _ _ _ _)
      have CY := Lib.hid (hCy.below hz)
      have hYb : ¬ wL.heap.size = b := by have := (HD8.out.below hb).lt; omega
      have HS9 := Lib.hid (HD9.out.at HS6.out)
      have CR9 := Lib.hid (CR'.out.apart HD9.out.ap)
      have CO9 := Lib.hid (CO'.out.apart HD9.out.ap)
      have C19 := Lib.hid (C1'.out.apart HD9.out.ap)
      have C29 := Lib.hid (C2'.out.apart HD9.out.ap)
      have D4 := Lib.hid (B4.out.apart HD9.out.ap h4b)
      have D5 := Lib.hid (B5.out.apart HD9.out.ap h5b)
      have D10 := Lib.hid (B10.out.apart HD9.out.ap h10b)
      have D11 := Lib.hid (B11.out.apart HD9.out.ap h11b)
      have HB9 := Lib.hid (HB6.out.trans (HD9.out.ap.below HZ0.out.1 HB6.out.size))
      have HW := Lib.hid hw
      clear hw hz hb hCy HD7 HD8 OK7 HZT C8 B4 B5 B10 B11 CR' CO' C1' C2' HB6 HD9 hbl6 hb7
      go_upto_region 6 with fail
      try rw [HW.out]
      obtain ⟨FY, hFY⟩ : ∃ B, wL.heap.size = B := ⟨_, rfl⟩
      rw [hFY] at BY hYb
      try rw [hFY]
      clear HW hFY
      have HDZ := Lib.hid (Held.start HS9.out)
      go_cut [11] (fun s11 wx => ∃ B, s11 = .slice (some ⟨B, 0, none⟩) 7 7 ∧ ¬ B = b ∧ Hid (Curs wx b B 7) ∧ Hid (Held w9 b ra rn rc wx))
      case first =>
        refine wp_region_fr (putJ _ 11 41) (fun bb listed wx => ∃ t41 t42 t43 t44 t45 t46 t47 t48 t49 t50 t51 : Value, bb.2 = [t41, t42, t43, t44, t45, t46, t47, t48, t49, t50, t51] ∧ Hid (Held w9 b ra rn rc wx) ∧ (listed.getD 0 false = true → t41 = .agg #[.slice aR nR cR, .int .i64 pR, .int .i64 iR]) ∧ (listed.getD 1 false = true → t42 = .agg #[.slice aO nO cO, .int .i64 pO, .int .i64 iO]) ∧ (listed.getD 2 false = true → t43 = .agg #[.slice a1 n1 cap1, .int .i64 p, .int .i64 inc]) ∧ (listed.getD 3 false = true → t44 = .agg #[.slice a2 n2 cap2, .int .i64 q, .int .i64 jnc]) ∧ (listed.getD 4 false = true → t45 = .pointer (some ⟨b, 0, none⟩)) ∧ (listed.getD 5 false = true → t46 = .agg #[.slice a1 n1 cap1, .int .i64 p, .int .i64 inc]) ∧ (listed.getD 6 false = true → VC b t47 wx) ∧ (listed.getD 7 false = true → t48 = .agg #[.slice ya yn yc, .int .i64 yp, .int .i64 yi]) ∧ (listed.getD 8 false = true → t49 = .pointer (some ⟨b, 0, none⟩)) ∧ (listed.getD 9 false = true → VC b t50 wx) ∧ (listed.getD 10 false = true → VN 7 b t51 wx) ∧ (listed.getD 11 false = true → VN 7 b bb.1 wx)) _ (by kernel_rfl) (by kernel_rfl) (putJ_self _ 11 41 11) ?h0 ?hstep ?hdone
        case h0 =>
          exact ⟨_, _, _, _, _, _, _, _, _, _, _, rfl, HDZ.out.drew, (fun h => absurd h (by decide)), (fun h => absurd h (by decide)), (fun h => absurd h (by decide)), (fun h => absurd h (by decide)), (fun h => absurd h (by decide)), (fun h => absurd h (by decide)), (fun h => absurd h (by decide)), (fun h => absurd h (by decide)), (fun h => absurd h (by decide)), (fun h => absurd h (by decide)), (fun h => absurd h (by decide)), (fun h => absurd h (by decide))⟩
        case hstep =>
          refine StepsJ.cons (j := 1) rfl ?s0 (StepsJ.cons (j := 2) rfl ?s1 (StepsJ.cons (j := 3) rfl ?s2 (StepsJ.cons (j := 4) rfl ?s3 (StepsJ.cons (j := 5) rfl ?s4 (StepsJ.cons (j := 6) rfl ?s5 (StepsJ.cons (j := 7) rfl ?s6 (StepsJ.cons (j := 8) rfl ?s7 (StepsJ.cons (j := 9) rfl ?s8 (StepsJ.cons (j := 10) rfl ?s9 (StepsJ.cons (j := 11) rfl ?s10 (StepsJ.cons (j := 12) rfl ?s11 (StepsJ.nil))))))))))))
          case s0 =>
            intro listed bb wx hall hI K hK
            obtain ⟨s10, ts⟩ := bb
            obtain ⟨t41, t42, t43, t44, t45, t46, t47, t48, t49, t50, t51, hts, HH, h0, h1, h2, h3, h4, h5, h6, h7, h8, h9, h10, h11⟩ := hI
            rw [if_pos (by rfl)]
            dsimp only at hts h11
            subst hts
            simp only [putJ, putL, Act.put, List.getElem_toArray, List.getElem_cons_zero, List.getElem_cons_succ, List.setIfInBounds_toArray, List.set_cons_zero, List.set_cons_succ]
            obtain ⟨q0, q1, q2, _, _, _⟩ := D4.out.apart HH.out.ap h4b
            go_simp
            have hk := hK.out (s10, [_, t42, t43, t44, t45, t46, t47, t48, t49, t50, t51]) _ ⟨_, t42, t43, t44, t45, t46, t47, t48, t49, t50, t51, rfl, HH, (fun _ => rfl), (keepV h1 (by decide)), (keepV h2 (by decide)), (keepV h3 (by decide)), (keepV h4 (by decide)), (keepV h5 (by decide)), (keepV h6 (by decide)), (keepV h7 (by decide)), (keepV h8 (by decide)), (keepV h9 (by decide)), (keepV h10 (by decide)), (keepV h11 (by decide))⟩
            simp only [putJ, putL, Act.put, List.getElem_toArray, List.getElem_cons_zero, List.getElem_cons_succ, List.setIfInBounds_toArray, List.set_cons_zero, List.set_cons_succ] at hk
            exact hk
          case s1 =>
            intro listed bb wx hall hI K hK
            obtain ⟨s10, ts⟩ := bb
            obtain ⟨t41, t42, t43, t44, t45, t46, t47, t48, t49, t50, t51, hts, HH, h0, h1, h2, h3, h4, h5, h6, h7, h8, h9, h10, h11⟩ := hI
            rw [if_pos (by rfl)]
            dsimp only at hts h11
            subst hts
            simp only [putJ, putL, Act.put, List.getElem_toArray, List.getElem_cons_zero, List.getElem_cons_succ, List.setIfInBounds_toArray, List.set_cons_zero, List.set_cons_succ]
            obtain ⟨q0, q1, q2, _, _, _⟩ := D5.out.apart HH.out.ap h5b
            go_simp
            have hk := hK.out (s10, [t41, _, t43, t44, t45, t46, t47, t48, t49, t50, t51]) _ ⟨t41, _, t43, t44, t45, t46, t47, t48, t49, t50, t51, rfl, HH, (keepV h0 (by decide)), (fun _ => rfl), (keepV h2 (by decide)), (keepV h3 (by decide)), (keepV h4 (by decide)), (keepV h5 (by decide)), (keepV h6 (by decide)), (keepV h7 (by decide)), (keepV h8 (by decide)), (keepV h9 (by decide)), (keepV h10 (by decide)), (keepV h11 (by decide))⟩
            simp only [putJ, putL, Act.put, List.getElem_toArray, List.getElem_cons_zero, List.getElem_cons_succ, List.setIfInBounds_toArray, List.set_cons_zero, List.set_cons_succ] at hk
            exact hk
          case s2 =>
            intro listed bb wx hall hI K hK
            obtain ⟨s10, ts⟩ := bb
            obtain ⟨t41, t42, t43, t44, t45, t46, t47, t48, t49, t50, t51, hts, HH, h0, h1, h2, h3, h4, h5, h6, h7, h8, h9, h10, h11⟩ := hI
            rw [if_pos (by rfl)]
            dsimp only at hts h11
            subst hts
            simp only [putJ, putL, Act.put, List.getElem_toArray, List.getElem_cons_zero, List.getElem_cons_succ, List.setIfInBounds_toArray, List.set_cons_zero, List.set_cons_succ]
            obtain ⟨q0, q1, q2, _, _, _⟩ := D10.out.apart HH.out.ap h10b
            go_simp
            have hk := hK.out (s10, [t41, t42, _, t44, t45, t46, t47, t48, t49, t50, t51]) _ ⟨t41, t42, _, t44, t45, t46, t47, t48, t49, t50, t51, rfl, HH, (keepV h0 (by decide)), (keepV h1 (by decide)), (fun _ => rfl), (keepV h3 (by decide)), (keepV h4 (by decide)), (keepV h5 (by decide)), (keepV h6 (by decide)), (keepV h7 (by decide)), (keepV h8 (by decide)), (keepV h9 (by decide)), (keepV h10 (by decide)), (keepV h11 (by decide))⟩
            simp only [putJ, putL, Act.put, List.getElem_toArray, List.getElem_cons_zero, List.getElem_cons_succ, List.setIfInBounds_toArray, List.set_cons_zero, List.set_cons_succ] at hk
            exact hk
          case s3 =>
            intro listed bb wx hall hI K hK
            obtain ⟨s10, ts⟩ := bb
            obtain ⟨t41, t42, t43, t44, t45, t46, t47, t48, t49, t50, t51, hts, HH, h0, h1, h2, h3, h4, h5, h6, h7, h8, h9, h10, h11⟩ := hI
            rw [if_pos (by rfl)]
            dsimp only at hts h11
            subst hts
            simp only [putJ, putL, Act.put, List.getElem_toArray, List.getElem_cons_zero, List.getElem_cons_succ, List.setIfInBounds_toArray, List.set_cons_zero, List.set_cons_succ]
            obtain ⟨q0, q1, q2, _, _, _⟩ := D11.out.apart HH.out.ap h11b
            go_simp
            have hk := hK.out (s10, [t41, t42, t43, _, t45, t46, t47, t48, t49, t50, t51]) _ ⟨t41, t42, t43, _, t45, t46, t47, t48, t49, t50, t51, rfl, HH, (keepV h0 (by decide)), (keepV h1 (by decide)), (keepV h2 (by decide)), (fun _ => rfl), (keepV h4 (by decide)), (keepV h5 (by decide)), (keepV h6 (by decide)), (keepV h7 (by decide)), (keepV h8 (by decide)), (keepV h9 (by decide)), (keepV h10 (by decide)), (keepV h11 (by decide))⟩
            simp only [putJ, putL, Act.put, List.getElem_toArray, List.getElem_cons_zero, List.getElem_cons_succ, List.setIfInBounds_toArray, List.set_cons_zero, List.set_cons_succ] at hk
            exact hk
          case s4 =>
            intro listed bb wx hall hI K hK
            obtain ⟨s10, ts⟩ := bb
            obtain ⟨t41, t42, t43, t44, t45, t46, t47, t48, t49, t50, t51, hts, HH, h0, h1, h2, h3, h4, h5, h6, h7, h8, h9, h10, h11⟩ := hI
            rw [if_pos (by rfl)]
            dsimp only at hts h11
            subst hts
            simp only [putJ, putL, Act.put, List.getElem_toArray, List.getElem_cons_zero, List.getElem_cons_succ, List.setIfInBounds_toArray, List.set_cons_zero, List.set_cons_succ]
            go_simp
            have hk := hK.out (s10, [t41, t42, t43, t44, _, t46, t47, t48, t49, t50, t51]) _ ⟨t41, t42, t43, t44, _, t46, t47, t48, t49, t50, t51, rfl, HH, (keepV h0 (by decide)), (keepV h1 (by decide)), (keepV h2 (by decide)), (keepV h3 (by decide)), (fun _ => rfl), (keepV h5 (by decide)), (keepV h6 (by decide)), (keepV h7 (by decide)), (keepV h8 (by decide)), (keepV h9 (by decide)), (keepV h10 (by decide)), (keepV h11 (by decide))⟩
            simp only [putJ, putL, Act.put, List.getElem_toArray, List.getElem_cons_zero, List.getElem_cons_succ, List.setIfInBounds_toArray, List.set_cons_zero, List.set_cons_succ] at hk
            exact hk
          case s5 =>
            intro listed bb wx hall hI K hK
            obtain ⟨s10, ts⟩ := bb
            obtain ⟨t41, t42, t43, t44, t45, t46, t47, t48, t49, t50, t51, hts, HH, h0, h1, h2, h3, h4, h5, h6, h7, h8, h9, h10, h11⟩ := hI
            rw [if_pos (by rfl)]
            dsimp only at hts h11
            subst hts
            simp only [putJ, putL, Act.put, List.getElem_toArray, List.getElem_cons_zero, List.getElem_cons_succ, List.setIfInBounds_toArray, List.set_cons_zero, List.set_cons_succ]
            obtain ⟨q0, q1, q2, _, _, _⟩ := D10.out.apart HH.out.ap h10b
            go_simp
            have hk := hK.out (s10, [t41, t42, t43, t44, t45, _, t47, t48, t49, t50, t51]) _ ⟨t41, t42, t43, t44, t45, _, t47, t48, t49, t50, t51, rfl, HH, (keepV h0 (by decide)), (keepV h1 (by decide)), (keepV h2 (by decide)), (keepV h3 (by decide)), (keepV h4 (by decide)), (fun _ => rfl), (keepV h6 (by decide)), (keepV h7 (by decide)), (keepV h8 (by decide)), (keepV h9 (by decide)), (keepV h10 (by decide)), (keepV h11 (by decide))⟩
            simp only [putJ, putL, Act.put, List.getElem_toArray, List.getElem_cons_zero, List.getElem_cons_succ, List.setIfInBounds_toArray, List.set_cons_zero, List.set_cons_succ] at hk
            exact hk
          case s6 =>
            intro listed bb wx hall hI K hK
            obtain ⟨s10, ts⟩ := bb
            obtain ⟨t41, t42, t43, t44, t45, t46, t47, t48, t49, t50, t51, hts, HH, h0, h1, h2, h3, h4, h5, h6, h7, h8, h9, h10, h11⟩ := hI
            rw [if_pos (by rfl)]
            dsimp only at hts h11
            subst hts
            simp only [putJ, putL, Act.put, List.getElem_toArray, List.getElem_cons_zero, List.getElem_cons_succ, List.setIfInBounds_toArray, List.set_cons_zero, List.set_cons_succ]
            have d4 : listed.getD 4 false = true := hall ⟨4, Ground.data⟩ (by simp) (by rfl)
            obtain rfl := h4 d4
            have d5 : listed.getD 5 false = true := hall ⟨5, Ground.data⟩ (by simp) (by rfl)
            obtain rfl := h5 d5
            go_simp
            with_reducible refine (bent_any 4611686018427387905 (by decide) (by decide) b ra rn rc a1 n1 cap1 zs p inc hn1.1 (by omega) D1.out P1.out.1 P1.out.2 _ (HH.out.at HS9.out) (C19.out.apart HH.out.ap).row).mono ?_
            rintro e w7 ⟨a7, n7, cap7, z7, p7, i7, rfl, hs7, he7, hr7, hm7, hd7, hp7, hi7, hx7⟩
            have HH2 := Lib.hid (HH.out.call hs7 he7)
            have hap := he7
            have hk := hK.out (s10, [t41, t42, t43, t44, _, _, .agg #[.slice a7 n7 cap7, .int .i64 p7, .int .i64 i7], t48, t49, t50, t51]) _ ⟨t41, t42, t43, t44, _, _, .agg #[.slice a7 n7 cap7, .int .i64 p7, .int .i64 i7], t48, t49, t50, t51, rfl, HH2, (keepV h0 (by decide)), (keepV h1 (by decide)), (keepV h2 (by decide)), (keepV h3 (by decide)), (keepV h4 (by decide)), (keepV h5 (by decide)), (fun _ => ⟨_, _, _, _, _, _, rfl, bent_in HH.out.lt hr7 hp7 hi7 hx7⟩), (keepV h7 (by decide)), (keepV h8 (by decide)), (fun hd => (keepV h9 (by decide) hd).apart hap), (fun hd => (keepV h10 (by decide) hd).apart hap), (fun hd => (keepV h11 (by decide) hd).apart hap)⟩
            simp only [putJ, putL, Act.put, List.getElem_toArray, List.getElem_cons_zero, List.getElem_cons_succ, List.setIfInBounds_toArray, List.set_cons_zero, List.set_cons_succ] at hk
            exact hk
          case s7 =>
            intro listed bb wx hall hI K hK
            obtain ⟨s10, ts⟩ := bb
            obtain ⟨t41, t42, t43, t44, t45, t46, t47, t48, t49, t50, t51, hts, HH, h0, h1, h2, h3, h4, h5, h6, h7, h8, h9, h10, h11⟩ := hI
            rw [if_pos (by rfl)]
            dsimp only at hts h11
            subst hts
            simp only [putJ, putL, Act.put, List.getElem_toArray, List.getElem_cons_zero, List.getElem_cons_succ, List.setIfInBounds_toArray, List.set_cons_zero, List.set_cons_succ]
            obtain ⟨q0, q1, q2, _, _, _⟩ := BY.out.apart HH.out.ap hYb
            go_simp
            have hk := hK.out (s10, [t41, t42, t43, t44, t45, t46, t47, _, t49, t50, t51]) _ ⟨t41, t42, t43, t44, t45, t46, t47, _, t49, t50, t51, rfl, HH, (keepV h0 (by decide)), (keepV h1 (by decide)), (keepV h2 (by decide)), (keepV h3 (by decide)), (keepV h4 (by decide)), (keepV h5 (by decide)), (keepV h6 (by decide)), (fun _ => rfl), (keepV h8 (by decide)), (keepV h9 (by decide)), (keepV h10 (by decide)), (keepV h11 (by decide))⟩
            simp only [putJ, putL, Act.put, List.getElem_toArray, List.getElem_cons_zero, List.getElem_cons_succ, List.setIfInBounds_toArray, List.set_cons_zero, List.set_cons_succ] at hk
            exact hk
          case s8 =>
            intro listed bb wx hall hI K hK
            obtain ⟨s10, ts⟩ := bb
            obtain ⟨t41, t42, t43, t44, t45, t46, t47, t48, t49, t50, t51, hts, HH, h0, h1, h2, h3, h4, h5, h6, h7, h8, h9, h10, h11⟩ := hI
            rw [if_pos (by rfl)]
            dsimp only at hts h11
            subst hts
            simp only [putJ, putL, Act.put, List.getElem_toArray, List.getElem_cons_zero, List.getElem_cons_succ, List.setIfInBounds_toArray, List.set_cons_zero, List.set_cons_succ]
            go_simp
            have hk := hK.out (s10, [t41, t42, t43, t44, t45, t46, t47, t48, _, t50, t51]) _ ⟨t41, t42, t43, t44, t45, t46, t47, t48, _, t50, t51, rfl, HH, (keepV h0 (by decide)), (keepV h1 (by decide)), (keepV h2 (by decide)), (keepV h3 (by decide)), (keepV h4 (by decide)), (keepV h5 (by decide)), (keepV h6 (by decide)), (keepV h7 (by decide)), (fun _ => rfl), (keepV h9 (by decide)), (keepV h10 (by decide)), (keepV h11 (by decide))⟩
            simp only [putJ, putL, Act.put, List.getElem_toArray, List.getElem_cons_zero, List.getElem_cons_succ, List.setIfInBounds_toArray, List.set_cons_zero, List.set_cons_succ] at hk
            exact hk
          case s9 =>
            intro listed bb wx hall hI K hK
            obtain ⟨s10, ts⟩ := bb
            obtain ⟨t41, t42, t43, t44, t45, t46, t47, t48, t49, t50, t51, hts, HH, h0, h1, h2, h3, h4, h5, h6, h7, h8, h9, h10, h11⟩ := hI
            rw [if_pos (by rfl)]
            dsimp only at hts h11
            subst hts
            simp only [putJ, putL, Act.put, List.getElem_toArray, List.getElem_cons_zero, List.getElem_cons_succ, List.setIfInBounds_toArray, List.set_cons_zero, List.set_cons_succ]
            have d8 : listed.getD 8 false = true := hall ⟨8, Ground.data⟩ (by simp) (by rfl)
            obtain rfl := h8 d8
            go_simp
            with_reducible refine (steps_any b ra rn rc _ (HH.out.at HS9.out)).mono ?_
            rintro e w14 ⟨a11, n11, cap11, z11, p11, i11, rfl, hs11, he11, hr11, hp11, hi11, hx11⟩
            have HH2 := Lib.hid (HH.out.call hs11 he11)
            have hap := he11
            have hl11 := HH.out.lt
            have hk := hK.out (s10, [t41, t42, t43, t44, t45, t46, t47, t48, _, .agg #[.slice a11 n11 cap11, .int .i64 p11, .int .i64 i11], t51]) _ ⟨t41, t42, t43, t44, t45, t46, t47, t48, _, .agg #[.slice a11 n11 cap11, .int .i64 p11, .int .i64 i11], t51, rfl, HH2, (keepV h0 (by decide)), (keepV h1 (by decide)), (keepV h2 (by decide)), (keepV h3 (by decide)), (keepV h4 (by decide)), (keepV h5 (by decide)), (fun hd => (keepV h6 (by decide) hd).apart hap), (keepV h7 (by decide)), (keepV h8 (by decide)), (fun _ => ⟨_, _, _, _, _, _, rfl, ⟨hr11, hp11, hi11, fun _ x hx => by have := hx11 x hx; omega⟩⟩), (fun hd => (keepV h10 (by decide) hd).apart hap), (fun hd => (keepV h11 (by decide) hd).apart hap)⟩
            simp only [putJ, putL, Act.put, List.getElem_toArray, List.getElem_cons_zero, List.getElem_cons_succ, List.setIfInBounds_toArray, List.set_cons_zero, List.set_cons_succ] at hk
            exact hk
          case s10 =>
            intro listed bb wx hall hI K hK
            obtain ⟨s10, ts⟩ := bb
            obtain ⟨t41, t42, t43, t44, t45, t46, t47, t48, t49, t50, t51, hts, HH, h0, h1, h2, h3, h4, h5, h6, h7, h8, h9, h10, h11⟩ := hI
            rw [if_pos (by rfl)]
            dsimp only at hts h11
            subst hts
            simp only [putJ, putL, Act.put, List.getElem_toArray, List.getElem_cons_zero, List.getElem_cons_succ, List.setIfInBounds_toArray, List.set_cons_zero, List.set_cons_succ]
            have d0 : listed.getD 0 false = true := hall ⟨0, Ground.data⟩ (by simp) (by rfl)
            obtain rfl := h0 d0
            have d1 : listed.getD 1 false = true := hall ⟨1, Ground.data⟩ (by simp) (by rfl)
            obtain rfl := h1 d1
            have d2 : listed.getD 2 false = true := hall ⟨2, Ground.data⟩ (by simp) (by rfl)
            obtain rfl := h2 d2
            have d3 : listed.getD 3 false = true := hall ⟨3, Ground.data⟩ (by simp) (by rfl)
            obtain rfl := h3 d3
            have d6 : listed.getD 6 false = true := hall ⟨6, Ground.data⟩ (by simp) (by rfl)
            obtain ⟨ua, un, uc, uz, up, ui, rfl, hU⟩ := h6 d6
            have d7 : listed.getD 7 false = true := hall ⟨7, Ground.data⟩ (by simp) (by rfl)
            obtain rfl := h7 d7
            have d9 : listed.getD 9 false = true := hall ⟨9, Ground.data⟩ (by simp) (by rfl)
            obtain ⟨wa, wn, wc, wz, wp, wi, rfl, hW⟩ := h9 d9
            have hlt := HH.out.lt
            go_simp
            have HH2 := Lib.hid (HH.out.alloc (.cells #[.slice aR nR cR, .int .i64 pR, .int .i64 iR, .slice aO nO cO, .int .i64 pO, .int .i64 iO, .slice a1 n1 cap1, .int .i64 p, .int .i64 inc, .slice a2 n2 cap2, .int .i64 q, .int .i64 jnc, .slice ua un uc, .int .i64 up, .int .i64 ui, .slice ya yn yc, .int .i64 yp, .int .i64 yi, .slice wa wn wc, .int .i64 wp, .int .i64 wi] 38))
            have hap := (Apart.refl b wx).alloc (.cells #[.slice aR nR cR, .int .i64 pR, .int .i64 iR, .slice aO nO cO, .int .i64 pO, .int .i64 iO, .slice a1 n1 cap1, .int .i64 p, .int .i64 inc, .slice a2 n2 cap2, .int .i64 q, .int .i64 jnc, .slice ua un uc, .int .i64 up, .int .i64 ui, .slice ya yn yc, .int .i64 yp, .int .i64 yi, .slice wa wn wc, .int .i64 wp, .int .i64 wi] 38)
            have hk := hK.out (s10, [_, _, _, _, t45, t46, _, _, t49, _, _]) _ ⟨_, _, _, _, t45, t46, _, _, t49, _, _, rfl, HH2, (keepV h0 (by decide)), (keepV h1 (by decide)), (keepV h2 (by decide)), (keepV h3 (by decide)), (keepV h4 (by decide)), (keepV h5 (by decide)), (fun hd => (keepV h6 (by decide) hd).apart hap), (keepV h7 (by decide)), (keepV h8 (by decide)), (fun hd => (keepV h9 (by decide) hd).apart hap), (fun _ => ⟨wx.heap.size, rfl, Nat.ne_of_gt hlt, curs7 (CR9.out.apart HH.out.ap) (CO9.out.apart HH.out.ap) (C19.out.apart HH.out.ap) (C29.out.apart HH.out.ap) hU (CY.out.apart HH.out.ap) hW⟩), (fun hd => (keepV h11 (by decide) hd).apart hap)⟩
            simp only [putJ, putL, Act.put, List.getElem_toArray, List.getElem_cons_zero, List.getElem_cons_succ, List.setIfInBounds_toArray, List.set_cons_zero, List.set_cons_succ] at hk
            exact hk
          case s11 =>
            intro listed bb wx hall hI K hK
            obtain ⟨s10, ts⟩ := bb
            obtain ⟨t41, t42, t43, t44, t45, t46, t47, t48, t49, t50, t51, hts, HH, h0, h1, h2, h3, h4, h5, h6, h7, h8, h9, h10, h11⟩ := hI
            rw [if_pos (by rfl)]
            dsimp only at hts h11
            subst hts
            simp only [putJ, putL, Act.put, List.getElem_toArray, List.getElem_cons_zero, List.getElem_cons_succ, List.setIfInBounds_toArray, List.set_cons_zero, List.set_cons_succ]
            have d10 : listed.getD 10 false = true := hall ⟨10, Ground.data⟩ (by simp) (by rfl)
            obtain ⟨B, rfl, hB, hBc⟩ := h10 d10
            go_simp
            have hk := hK.out (_, [t41, t42, t43, t44, t45, t46, t47, t48, t49, t50, _]) _ ⟨t41, t42, t43, t44, t45, t46, t47, t48, t49, t50, _, rfl, HH, (keepV h0 (by decide)), (keepV h1 (by decide)), (keepV h2 (by decide)), (keepV h3 (by decide)), (keepV h4 (by decide)), (keepV h5 (by decide)), (keepV h6 (by decide)), (keepV h7 (by decide)), (keepV h8 (by decide)), (keepV h9 (by decide)), (keepV h10 (by decide)), (fun _ => ⟨B, rfl, hB, hBc⟩)⟩
            simp only [putJ, putL, Act.put, List.getElem_toArray, List.getElem_cons_zero, List.getElem_cons_succ, List.setIfInBounds_toArray, List.set_cons_zero, List.set_cons_succ] at hk
            exact hk
        case hdone =>
          intro listed bb wx hA hI
          obtain ⟨s10, ts⟩ := bb
          obtain ⟨t41, t42, t43, t44, t45, t46, t47, t48, t49, t50, t51, hts, HH, h0, h1, h2, h3, h4, h5, h6, h7, h8, h9, h10, h11⟩ := hI
          dsimp only at hts h11
          subst hts
          obtain ⟨B, rfl, hB, hBc⟩ := h11 (hA 11 (by decide))
          simp only [putJ, putL, Act.put, List.getElem_toArray, List.getElem_cons_zero, List.getElem_cons_succ, List.setIfInBounds_toArray, List.set_cons_zero, List.set_cons_succ]
          try go_wp2_with fail
          go_meet
          exact ⟨B, rfl, hB, hBc, HH⟩
      case rest =>
      obtain ⟨B, rfl, hBb, HC, HH⟩ := hcut
      obtain ⟨w10, rfl⟩ : ∃ u : World, u = wc := ⟨_, rfl⟩
      have HB10 := Lib.hid (HB9.out.trans (HH.out.ap.below HZ0.out.1 HB9.out.size))
      have HS10 := Lib.hid (HH.out.at HS9.out)
      have CO10 := Lib.hid (CO9.out.apart HH.out.ap)
      have C110 := Lib.hid (C19.out.apart HH.out.ap)
      have C210 := Lib.hid (C29.out.apart HH.out.ap)
      have CY10 := Lib.hid (CY.out.apart HH.out.ap)
      have G5 := Lib.hid (D5.out.apart HH.out.ap h5b)
      have G10 := Lib.hid (D10.out.apart HH.out.ap h10b)
      have G11 := Lib.hid (D11.out.apart HH.out.ap h11b)
      have GY := Lib.hid (BY.out.apart HH.out.ap hYb)
      clear HDZ D4 D5 D10 D11 BY CR9 CO9 C19 C29 CY HH HB9 HS9 HS6 P1 P2 D1 D2 h4b hn1 hn2 OK1 OK2
      go_wp2_with fail
      go_loopw [54] (fun s54 wx => ∃ k : Nat, s54 = .int .i64 (k : Int) ∧ k ≤ 7 ∧ Hid (Held w10 b ra rn rc wx)) (fun s54 _ => 7 - (intOf s54).toNat)
      case atStart => exact ⟨0, rfl, by omega, Held.start HS10.out⟩
      case round =>
      obtain ⟨k, rfl, hk5, HL⟩ := hrel
      obtain ⟨wq, rfl⟩ : ∃ u : World, u = wr := ⟨_, rfl⟩
      by_cases hk : k < 7
      · have hki : (k : Int) < 7 := by omega
        obtain ⟨xa, xn, xc, zx, xp, xi, CX, hc0, hc1, hc2⟩ := HC.out.apart HL.out.ap hBb k hk
        obtain ⟨wA, hw⟩ : ∃ w', wq.alloc (.cells #[.slice xa xn xc, .int .i64 xp, .int .i64 xi] 38) = w' := ⟨_, rfl⟩
        have hz : Below wq.heap.size wq wA := by rw [← hw]; exact below_box _
        have C3 := Lib.hid (show Cur3 wA wq.heap.size (.slice xa xn xc) (.int .i64 xp) (.int .i64 xi) by rw [← hw]; exact Cur3.new _ _ _ _ _)
        have X1 := Lib.hid (CX.below hz)
        have HLA := Lib.hid (HL.out.below hz)
        have HSA := Lib.hid (HLA.out.at HS10.out)
        have hFb : ¬ wq.heap.size = b := by have := HL.out.lt; omega
        have HW := Lib.hid hw
        clear hw hz CX HL
        go_upto_region 10 with fail
        try rw [HW.out]
        obtain ⟨F1, hF1⟩ : ∃ B, wq.heap.size = B := ⟨_, rfl⟩
        rw [hF1] at C3 hFb
        try rw [hF1]
        clear HW hF1 hc0 hc1 hc2
        have HDZ := Lib.hid (Held.start HSA.out)
        go_cut [64, 65, 66] (fun s64 s65 s66 wx => ∃ B2 : Nat, s64 = .slice (some ⟨B2, 0, none⟩) 5 5 ∧ s65 = .int .i64 5 ∧ s66 = .int .i64 0 ∧ ¬ B2 = b ∧ Hid (Curs wx b B2 5) ∧ Hid (Held wA b ra rn rc wx))
        case first =>
          refine wp_region_inv 58 9 (fun ts listed wx => ∃ t58 t59 t60 t61 t62 t63 t64 t65 t66 : Value, ts = [t58, t59, t60, t61, t62, t63, t64, t65, t66] ∧ Hid (Held wA b ra rn rc wx) ∧ (listed.getD 0 false = true → t58 = .agg #[.slice a1 n1 cap1, .int .i64 p, .int .i64 inc]) ∧ (listed.getD 1 false = true → t59 = .agg #[.slice a2 n2 cap2, .int .i64 q, .int .i64 jnc]) ∧ (listed.getD 2 false = true → t60 = .agg #[.slice aO nO cO, .int .i64 pO, .int .i64 iO]) ∧ (listed.getD 3 false = true → t61 = .agg #[.slice ya yn yc, .int .i64 yp, .int .i64 yi]) ∧ (listed.getD 4 false = true → t62 = .pointer (some ⟨b, 0, none⟩)) ∧ (listed.getD 5 false = true → VC b t63 wx) ∧ (listed.getD 6 false = true → VN 5 b t64 wx) ∧ (listed.getD 7 false = true → t65 = .int .i64 5) ∧ (listed.getD 8 false = true → t66 = .int .i64 0)) (by kernel_rfl) (by kernel_rfl) ?h0 ?hstep ?hdone
          case h0 =>
            exact ⟨_, _, _, _, _, _, _, _, _, rfl, HDZ.out.drew, (fun h => absurd h (by decide)), (fun h => absurd h (by decide)), (fun h => absurd h (by decide)), (fun h => absurd h (by decide)), (fun h => absurd h (by decide)), (fun h => absurd h (by decide)), (fun h => absurd h (by decide)), (fun h => absurd h (by decide)), (fun h => absurd h (by decide))⟩
          case hstep =>
            refine StepsI.cons (j := 1) rfl ?s0 (StepsI.cons (j := 2) rfl ?s1 (StepsI.cons (j := 3) rfl ?s2 (StepsI.cons (j := 4) rfl ?s3 (StepsI.cons (j := 5) rfl ?s4 (StepsI.cons (j := 6) rfl ?s5 (StepsI.cons (j := 7) rfl ?s6 (StepsI.cons (j := 8) rfl ?s7 (StepsI.cons (j := 9) rfl ?s8 (StepsI.nil)))))))))
            case s0 =>
              intro listed ts wx hall hI K hK
              obtain ⟨t58, t59, t60, t61, t62, t63, t64, t65, t66, hts, HH, h0, h1, h2, h3, h4, h5, h6, h7, h8⟩ := hI
              rw [if_pos (by rfl)]
              subst hts
              simp only [putL, Act.put, List.getElem_toArray, List.getElem_cons_zero, List.getElem_cons_succ, List.setIfInBounds_toArray, List.set_cons_zero, List.set_cons_succ]
              obtain ⟨q0, q1, q2, _, _, _⟩ := G10.out.apart (HLA.out.ap.trans HH.out.ap) h10b
              go_simp
              have hk := hK.out _ _ ⟨_, t59, t60, t61, t62, t63, t64, t65, t66, rfl, HH, (fun _ => rfl), (keepV h1 (by decide)), (keepV h2 (by decide)), (keepV h3 (by decide)), (keepV h4 (by decide)), (keepV h5 (by decide)), (keepV h6 (by decide)), (keepV h7 (by decide)), (keepV h8 (by decide))⟩
              simp only [putL, Act.put, List.getElem_toArray, List.getElem_cons_zero, List.getElem_cons_succ, List.setIfInBounds_toArray, List.set_cons_zero, List.set_cons_succ] at hk
              exact hk
            case s1 =>
              intro listed ts wx hall hI K hK
              obtain ⟨t58, t59, t60, t61, t62, t63, t64, t65, t66, hts, HH, h0, h1, h2, h3, h4, h5, h6, h7, h8⟩ := hI
              rw [if_pos (by rfl)]
              subst hts
              simp only [putL, Act.put, List.getElem_toArray, List.getElem_cons_zero, List.getElem_cons_succ, List.setIfInBounds_toArray, List.set_cons_zero, List.set_cons_succ]
              obtain ⟨q0, q1, q2, _, _, _⟩ := G11.out.apart (HLA.out.ap.trans HH.out.ap) h11b
              go_simp
              have hk := hK.out _ _ ⟨t58, _, t60, t61, t62, t63, t64, t65, t66, rfl, HH, (keepV h0 (by decide)), (fun _ => rfl), (keepV h2 (by decide)), (keepV h3 (by decide)), (keepV h4 (by decide)), (keepV h5 (by decide)), (keepV h6 (by decide)), (keepV h7 (by decide)), (keepV h8 (by decide))⟩
              simp only [putL, Act.put, List.getElem_toArray, List.getElem_cons_zero, List.getElem_cons_succ, List.setIfInBounds_toArray, List.set_cons_zero, List.set_cons_succ] at hk
              exact hk
            case s2 =>
              intro listed ts wx hall hI K hK
              obtain ⟨t58, t59, t60, t61, t62, t63, t64, t65, t66, hts, HH, h0, h1, h2, h3, h4, h5, h6, h7, h8⟩ := hI
              rw [if_pos (by rfl)]
              subst hts
              simp only [putL, Act.put, List.getElem_toArray, List.getElem_cons_zero, List.getElem_cons_succ, List.setIfInBounds_toArray, List.set_cons_zero, List.set_cons_succ]
              obtain ⟨q0, q1, q2, _, _, _⟩ := G5.out.apart (HLA.out.ap.trans HH.out.ap) h5b
              go_simp
              have hk := hK.out _ _ ⟨t58, t59, _, t61, t62, t63, t64, t65, t66, rfl, HH, (keepV h0 (by decide)), (keepV h1 (by decide)), (fun _ => rfl), (keepV h3 (by decide)), (keepV h4 (by decide)), (keepV h5 (by decide)), (keepV h6 (by decide)), (keepV h7 (by decide)), (keepV h8 (by decide))⟩
              simp only [putL, Act.put, List.getElem_toArray, List.getElem_cons_zero, List.getElem_cons_succ, List.setIfInBounds_toArray, List.set_cons_zero, List.set_cons_succ] at hk
              exact hk
            case s3 =>
              intro listed ts wx hall hI K hK
              obtain ⟨t58, t59, t60, t61, t62, t63, t64, t65, t66, hts, HH, h0, h1, h2, h3, h4, h5, h6, h7, h8⟩ := hI
              rw [if_pos (by rfl)]
              subst hts
              simp only [putL, Act.put, List.getElem_toArray, List.getElem_cons_zero, List.getElem_cons_succ, List.setIfInBounds_toArray, List.set_cons_zero, List.set_cons_succ]
              obtain ⟨q0, q1, q2, _, _, _⟩ := GY.out.apart (HLA.out.ap.trans HH.out.ap) hYb
              go_simp
              have hk := hK.out _ _ ⟨t58, t59, t60, _, t62, t63, t64, t65, t66, rfl, HH, (keepV h0 (by decide)), (keepV h1 (by decide)), (keepV h2 (by decide)), (fun _ => rfl), (keepV h4 (by decide)), (keepV h5 (by decide)), (keepV h6 (by decide)), (keepV h7 (by decide)), (keepV h8 (by decide))⟩
              simp only [putL, Act.put, List.getElem_toArray, List.getElem_cons_zero, List.getElem_cons_succ, List.setIfInBounds_toArray, List.set_cons_zero, List.set_cons_succ] at hk
              exact hk
            case s4 =>
              intro listed ts wx hall hI K hK
              obtain ⟨t58, t59, t60, t61, t62, t63, t64, t65, t66, hts, HH, h0, h1, h2, h3, h4, h5, h6, h7, h8⟩ := hI
              rw [if_pos (by rfl)]
              subst hts
              simp only [putL, Act.put, List.getElem_toArray, List.getElem_cons_zero, List.getElem_cons_succ, List.setIfInBounds_toArray, List.set_cons_zero, List.set_cons_succ]
              go_simp
              have hk := hK.out _ _ ⟨t58, t59, t60, t61, _, t63, t64, t65, t66, rfl, HH, (keepV h0 (by decide)), (keepV h1 (by decide)), (keepV h2 (by decide)), (keepV h3 (by decide)), (fun _ => rfl), (keepV h5 (by decide)), (keepV h6 (by decide)), (keepV h7 (by decide)), (keepV h8 (by decide))⟩
              simp only [putL, Act.put, List.getElem_toArray, List.getElem_cons_zero, List.getElem_cons_succ, List.setIfInBounds_toArray, List.set_cons_zero, List.set_cons_succ] at hk
              exact hk
            case s5 =>
              intro listed ts wx hall hI K hK
              obtain ⟨t58, t59, t60, t61, t62, t63, t64, t65, t66, hts, HH, h0, h1, h2, h3, h4, h5, h6, h7, h8⟩ := hI
              rw [if_pos (by rfl)]
              subst hts
              simp only [putL, Act.put, List.getElem_toArray, List.getElem_cons_zero, List.getElem_cons_succ, List.setIfInBounds_toArray, List.set_cons_zero, List.set_cons_succ]
              have d4 : listed.getD 4 false = true := hall ⟨4, Ground.data⟩ (by simp) (by rfl)
              obtain rfl := h4 d4
              go_simp
              with_reducible refine (steps_any b ra rn rc _ (HH.out.at HSA.out)).mono ?_
              rintro e w14 ⟨a11, n11, cap11, z11, p11, i11, rfl, hs11, he11, hr11, hp11, hi11, hx11⟩
              have HH2 := Lib.hid (HH.out.call hs11 he11)
              have hap := he11
              have hl11 := HH.out.lt
              have hk := hK.out _ _ ⟨t58, t59, t60, t61, _, .agg #[.slice a11 n11 cap11, .int .i64 p11, .int .i64 i11], t64, t65, t66, rfl, HH2, (keepV h0 (by decide)), (keepV h1 (by decide)), (keepV h2 (by decide)), (keepV h3 (by decide)), (keepV h4 (by decide)), (fun _ => ⟨_, _, _, _, _, _, rfl, ⟨hr11, hp11, hi11, fun _ x hx => by have := hx11 x hx; omega⟩⟩), (fun hd => (keepV h6 (by decide) hd).apart hap), (keepV h7 (by decide)), (keepV h8 (by decide))⟩
              simp only [putL, Act.put, List.getElem_toArray, List.getElem_cons_zero, List.getElem_cons_succ, List.setIfInBounds_toArray, List.set_cons_zero, List.set_cons_succ] at hk
              exact hk
            case s6 =>
              intro listed ts wx hall hI K hK
              obtain ⟨t58, t59, t60, t61, t62, t63, t64, t65, t66, hts, HH, h0, h1, h2, h3, h4, h5, h6, h7, h8⟩ := hI
              rw [if_pos (by rfl)]
              subst hts
              simp only [putL, Act.put, List.getElem_toArray, List.getElem_cons_zero, List.getElem_cons_succ, List.setIfInBounds_toArray, List.set_cons_zero, List.set_cons_succ]
              have d0 : listed.getD 0 false = true := hall ⟨0, Ground.data⟩ (by simp) (by rfl)
              obtain rfl := h0 d0
              have d1 : listed.getD 1 false = true := hall ⟨1, Ground.data⟩ (by simp) (by rfl)
              obtain rfl := h1 d1
              have d2 : listed.getD 2 false = true := hall ⟨2, Ground.data⟩ (by simp) (by rfl)
              obtain rfl := h2 d2
              have d3 : listed.getD 3 false = true := hall ⟨3, Ground.data⟩ (by simp) (by rfl)
              obtain rfl := h3 d3
              have d5 : listed.getD 5 false = true := hall ⟨5, Ground.data⟩ (by simp) (by rfl)
              obtain ⟨wa, wn, wc, wz, wp, wi, rfl, hW⟩ := h5 d5
              have hlt := HH.out.lt
              go_simp
              have HH2 := Lib.hid (HH.out.alloc (.cells #[.slice a1 n1 cap1, .int .i64 p, .int .i64 inc, .slice a2 n2 cap2, .int .i64 q, .int .i64 jnc, .slice aO nO cO, .int .i64 pO, .int .i64 iO, .slice ya yn yc, .int .i64 yp, .int .i64 yi, .slice wa wn wc, .int .i64 wp, .int .i64 wi] 38))
              have hap := (Apart.refl b wx).alloc (.cells #[.slice a1 n1 cap1, .int .i64 p, .int .i64 inc, .slice a2 n2 cap2, .int .i64 q, .int .i64 jnc, .slice aO nO cO, .int .i64 pO, .int .i64 iO, .slice ya yn yc, .int .i64 yp, .int .i64 yi, .slice wa wn wc, .int .i64 wp, .int .i64 wi] 38)
              have hk := hK.out _ _ ⟨_, _, _, _, t62, _, _, t65, t66, rfl, HH2, (keepV h0 (by decide)), (keepV h1 (by decide)), (keepV h2 (by decide)), (keepV h3 (by decide)), (keepV h4 (by decide)), (fun hd => (keepV h5 (by decide) hd).apart hap), (fun _ => ⟨wx.heap.size, rfl, Nat.ne_of_gt hlt, curs5 (C110.out.apart (HLA.out.ap.trans HH.out.ap)) (C210.out.apart (HLA.out.ap.trans HH.out.ap)) (CO10.out.apart (HLA.out.ap.trans HH.out.ap)) (CY10.out.apart (HLA.out.ap.trans HH.out.ap)) hW⟩), (keepV h7 (by decide)), (keepV h8 (by decide))⟩
              simp only [putL, Act.put, List.getElem_toArray, List.getElem_cons_zero, List.getElem_cons_succ, List.setIfInBounds_toArray, List.set_cons_zero, List.set_cons_succ] at hk
              exact hk
            case s7 =>
              intro listed ts wx hall hI K hK
              obtain ⟨t58, t59, t60, t61, t62, t63, t64, t65, t66, hts, HH, h0, h1, h2, h3, h4, h5, h6, h7, h8⟩ := hI
              rw [if_pos (by rfl)]
              subst hts
              simp only [putL, Act.put, List.getElem_toArray, List.getElem_cons_zero, List.getElem_cons_succ, List.setIfInBounds_toArray, List.set_cons_zero, List.set_cons_succ]
              have d6 : listed.getD 6 false = true := hall ⟨6, Ground.data⟩ (by simp) (by rfl)
              obtain ⟨B2, rfl, hB2, hC2⟩ := h6 d6
              go_simp
              have hk := hK.out _ _ ⟨t58, t59, t60, t61, t62, t63, _, _, t66, rfl, HH, (keepV h0 (by decide)), (keepV h1 (by decide)), (keepV h2 (by decide)), (keepV h3 (by decide)), (keepV h4 (by decide)), (keepV h5 (by decide)), (keepV h6 (by decide)), (fun _ => rfl), (keepV h8 (by decide))⟩
              simp only [putL, Act.put, List.getElem_toArray, List.getElem_cons_zero, List.getElem_cons_succ, List.setIfInBounds_toArray, List.set_cons_zero, List.set_cons_succ] at hk
              exact hk
            case s8 =>
              intro listed ts wx hall hI K hK
              obtain ⟨t58, t59, t60, t61, t62, t63, t64, t65, t66, hts, HH, h0, h1, h2, h3, h4, h5, h6, h7, h8⟩ := hI
              rw [if_pos (by rfl)]
              subst hts
              simp only [putL, Act.put, List.getElem_toArray, List.getElem_cons_zero, List.getElem_cons_succ, List.setIfInBounds_toArray, List.set_cons_zero, List.set_cons_succ]
              go_simp
              have hk := hK.out _ _ ⟨t58, t59, t60, t61, t62, t63, t64, t65, _, rfl, HH, (keepV h0 (by decide)), (keepV h1 (by decide)), (keepV h2 (by decide)), (keepV h3 (by decide)), (keepV h4 (by decide)), (keepV h5 (by decide)), (keepV h6 (by decide)), (keepV h7 (by decide)), (fun _ => rfl)⟩
              simp only [putL, Act.put, List.getElem_toArray, List.getElem_cons_zero, List.getElem_cons_succ, List.setIfInBounds_toArray, List.set_cons_zero, List.set_cons_succ] at hk
              exact hk
          case hdone =>
            intro listed ts wx hA hI
            obtain ⟨t58, t59, t60, t61, t62, t63, t64, t65, t66, rfl, HH, h0, h1, h2, h3, h4, h5, h6, h7, h8⟩ := hI
            obtain ⟨B2, rfl, hB2, hC2⟩ := h6 (hA 6 (by decide))
            obtain rfl := h7 (hA 7 (by decide))
            obtain rfl := h8 (hA 8 (by decide))
            simp only [putL, Act.put, List.getElem_toArray, List.getElem_cons_zero, List.getElem_cons_succ, List.setIfInBounds_toArray, List.set_cons_zero, List.set_cons_succ]
            try go_wp2_with fail
            go_meet
            exact ⟨B2, rfl, rfl, rfl, hB2, hC2, HH⟩
        case rest =>
        obtain ⟨B2, rfl, rfl, rfl, hB2, HC2, HHc⟩ := hcut
        obtain ⟨w11, rfl⟩ : ∃ u : World, u = wc := ⟨_, rfl⟩
        have HL11 := Lib.hid (HLA.out.call (HHc.out.at HSA.out) HHc.out.ap)
        have X2 := Lib.hid (X1.out.apart HHc.out.ap)
        have C2x := Lib.hid (C3.out.apart HHc.out.ap hFb)
        clear HDZ HHc X1 C3 HLA HSA
        go_wp2_with fail
        go_loopw [66] (fun s66 wx => ∃ j : Nat, s66 = .int .i64 (j : Int) ∧ j ≤ 5 ∧ Hid (Below w11.heap.size w11 wx)) (fun s66 _ => 5 - (intOf s66).toNat)
        case atStart => exact ⟨0, rfl, by omega, Lib.hid (Below.refl _ _)⟩
        case round =>
        obtain ⟨j, rfl, hj5, HLj⟩ := hrel
        obtain ⟨wj, rfl⟩ : ∃ u : World, u = wr := ⟨_, rfl⟩
        by_cases hj7 : j < 5
        · have hji : (j : Int) < 5 := by omega
          obtain ⟨ua, un, uc, zu, up, ui, CU, e0, e1, e2⟩ := HC2.out.below HLj.out j hj7
          obtain ⟨r, s, t, hU⟩ := pair_u (z1 := zx) (z2 := zu) X2.out.ip X2.out.ii CU.ip CU.ii
          have HU := Lib.hid hU
          have tr : (r.c != r.c) = false := by simp
          have tsc : (s.c != s.c) = false := by simp
          have ttc : (t.c != t.c) = false := by simp
          obtain ⟨wE, hw⟩ : ∃ w', wj.alloc (.cells #[.slice ua un uc, .int .i64 up, .int .i64 ui] 38) = w' := ⟨_, rfl⟩
          have hz : Below wj.heap.size wj wE := by rw [← hw]; exact below_box _
          have CYE := Lib.hid (show Cur3 wE wj.heap.size (.slice ua un uc) (.int .i64 up) (.int .i64 ui) by rw [← hw]; exact Cur3.new _ _ _ _ _)
          have RY := Lib.hid (CU.row.under hz)
          have RX := Lib.hid (X2.out.row.under (HLj.out.trans (hz.mono HLj.out.size)))
          have C3E := Lib.hid (C2x.out.below (HLj.out.trans (hz.mono HLj.out.size)))
          have N0 := Lib.hid (Below.refl wE.heap.size wE)
          have LE := Lib.hid (HLj.out.trans (hz.mono HLj.out.size))
          have HW := Lib.hid hw
          clear hw hz hU CU
          go_upto_region 13 with fail
          try rw [HW.out]
          obtain ⟨F2, hF2⟩ : ∃ B, wj.heap.size = B := ⟨_, rfl⟩
          rw [hF2] at CYE
          try rw [hF2]
          clear HW hF2 e0 e1 e2
          obtain ⟨k0, k1, k2, k3, k4, k5⟩ := C3E.out
          obtain ⟨l0, l1, l2, l3, l4, l5⟩ := CYE.out
          go_wp2_with fail
          clear k0 k1 k2 k3 k4 k5 l0 l1 l2 l3 l4 l5
          refine ((HU.out xa xn xc ua un uc _ (RX.out.under N0.out) (RY.out.under N0.out)).1).mono ?_
          rintro e va0 ⟨r0, m0, s0, rfl, hb, hr, hx⟩
          obtain ⟨wb0, hw⟩ : ∃ u, va0.alloc (.cells #[.slice r0 m0 s0, .int .i64 r.p, .int .i64 r.inc] 38) = u := ⟨_, rfl⟩
          have hz : Below va0.heap.size va0 wb0 := by rw [← hw]; exact below_box _
          have hz2 := hb.trans (hz.mono hb.size)
          have N1 := Lib.hid (N0.out.trans (hz2.mono N0.out.size))
          have V0 := Lib.hid (show Cur3 wb0 va0.heap.size (.slice r0 m0 s0) (.int .i64 r.p) (.int .i64 r.inc) by rw [← hw]; exact Cur3.new _ _ _ _ _)
          have R0 := Lib.hid (hr.under hz)
          have LB0 := Lib.hid (show wE.heap.size ≤ va0.heap.size from Nat.le_trans N0.out.size hb.size)
          have HW0 := Lib.hid hw
          obtain ⟨b0, hb0⟩ : ∃ x, va0.heap.size = x := ⟨_, rfl⟩
          rw [hb0] at V0 LB0
          have HE0 := Lib.hid hb0
          obtain ⟨k0, k1, k2, k3, k4, k5⟩ := C3E.out.below N1.out
          obtain ⟨l0, l1, l2, l3, l4, l5⟩ := CYE.out.below N1.out
          clear hb hr hx hz hz2 hw hb0
          go_upto_region 14 with fail
          try rw [HW0.out]
          try rw [HE0.out]
          go_wp2_with fail
          clear k0 k1 k2 k3 k4 k5 l0 l1 l2 l3 l4 l5
          refine ((HU.out xa xn xc ua un uc _ (RX.out.under N1.out) (RY.out.under N1.out)).2.1).mono ?_
          rintro e va1 ⟨r1, m1, s1, rfl, hb, hr, hx⟩
          obtain ⟨wb1, hw⟩ : ∃ u, va1.alloc (.cells #[.slice r1 m1 s1, .int .i64 r.p, .int .i64 r.inc] 38) = u := ⟨_, rfl⟩
          have hz : Below va1.heap.size va1 wb1 := by rw [← hw]; exact below_box _
          have hz2 := hb.trans (hz.mono hb.size)
          have N2 := Lib.hid (N1.out.trans (hz2.mono N1.out.size))
          have V1 := Lib.hid (show Cur3 wb1 va1.heap.size (.slice r1 m1 s1) (.int .i64 r.p) (.int .i64 r.inc) by rw [← hw]; exact Cur3.new _ _ _ _ _)
          have R1 := Lib.hid (hr.under hz)
          have LB1 := Lib.hid (show wE.heap.size ≤ va1.heap.size from Nat.le_trans N1.out.size hb.size)
          have HW1 := Lib.hid hw
          have NE10 := Lib.hid (show va1.heap.size ≠ b0 by have := Nat.lt_of_lt_of_le V0.out.lt hb.size; omega)
          obtain ⟨b1, hb1⟩ : ∃ x, va1.heap.size = x := ⟨_, rfl⟩
          rw [hb1] at V1 LB1 NE10
          have HE1 := Lib.hid hb1
          have V0 := Lib.hid (V0.out.below hz2)
          have R0 := Lib.hid (R0.out.under hz2)
          obtain ⟨k0, k1, k2, k3, k4, k5⟩ := C3E.out.below N2.out
          obtain ⟨l0, l1, l2, l3, l4, l5⟩ := CYE.out.below N2.out
          clear hb hr hx hz hz2 hw hb1
          go_upto_region 15 with fail
          try rw [HW1.out]
          try rw [HE1.out]
          clear k0 k1 k2 k3 k4 k5 l0 l1 l2 l3 l4 l5
          obtain ⟨c0, c1, c2, f0, f1, f2⟩ := V0.out
          obtain ⟨d0, d1, d2, g0, g1, g2⟩ := V1.out
          go_wp2_with fail
          clear c0 c1 c2 f0 f1 f2 d0 d1 d2 g0 g1 g2
          refine (rsame_any r0 m0 s0 r.zs r.p r.inc r1 m1 s1 r.zs r.p r.inc true (sameB_self _ _ _) _ R0.out R1.out).mono ?_
          rintro e wz0 ⟨rfl, hb⟩
          have N3 := Lib.hid (N2.out.trans (hb.mono N2.out.size))
          have V0 := Lib.hid (V0.out.below hb)
          have V1 := Lib.hid (V1.out.below hb)
          clear hb R0 R1
          obtain ⟨k0, k1, k2, k3, k4, k5⟩ := C3E.out.below N3.out
          obtain ⟨l0, l1, l2, l3, l4, l5⟩ := CYE.out.below N3.out
          go_wp2_with fail
          clear k0 k1 k2 k3 k4 k5 l0 l1 l2 l3 l4 l5
          refine ((HU.out xa xn xc ua un uc _ (RX.out.under N3.out) (RY.out.under N3.out)).2.2.1).mono ?_
          rintro e va2 ⟨r2, m2, s2, rfl, hb, hr, hx⟩
          obtain ⟨wb2, hw⟩ : ∃ u, ((va2.setCell ⟨b0, 0, none⟩ (.slice r2 m2 s2)).setCell ⟨b0, 1, none⟩ (.int .i64 s.p)).setCell ⟨b0, 2, none⟩ (.int .i64 s.inc) = u := ⟨_, rfl⟩
          have ne0 : ∀ y : Addr, r2 = some y → 1 ≤ m2 → y.block ≠ b0 := fun y hy _ => by have := hx y hy; have := V0.out.lt; omega
          have ne1 : ∀ y : Addr, r2 = some y → 1 ≤ m2 → y.block ≠ b1 := fun y hy _ => by have := hx y hy; have := V1.out.lt; omega
          have K2 := Lib.hid (V0.out.below hb)
          have V1 := Lib.hid (show Cur3 wb2 b1 _ _ _ by rw [← hw]; exact (((V1.out.below hb).other NE10.out 0 _).other NE10.out 1 _).other NE10.out 2 _)
          have V0 := Lib.hid (show Cur3 wb2 b0 (.slice r2 m2 s2) (.int .i64 s.p) (.int .i64 s.inc) by rw [← hw]; exact (V0.out.below hb).set _ _ _)
          have R0 := Lib.hid (show RowZ wb2 r2 m2 s2 s.zs by rw [← hw]; exact ((hr.store ne0 _ _).store ne0 _ _).store ne0 _ _)
          have FR := Lib.hid (show ∀ y : Addr, r2 = some y → 1 ≤ m2 → y.block ≠ b1 from ne1)
          have N4 := Lib.hid (show Below wE.heap.size wE wb2 by rw [← hw]; exact (((N3.out.trans (hb.mono N3.out.size)).setCell (p := ⟨b0, 0, none⟩) LB0.out _).setCell (p := ⟨b0, 1, none⟩) LB0.out _).setCell (p := ⟨b0, 2, none⟩) LB0.out _)
          have HW2 := Lib.hid hw
          obtain ⟨c0, c1, c2, f0, f1, f2⟩ := K2.out
          clear hb hr hx hw ne0 ne1
          go_upto_region 18 with fail
          try rw [HW2.out]
          clear c0 c1 c2 f0 f1 f2
          obtain ⟨k0, k1, k2, k3, k4, k5⟩ := C3E.out.below N4.out
          obtain ⟨l0, l1, l2, l3, l4, l5⟩ := CYE.out.below N4.out
          go_wp2_with fail
          clear k0 k1 k2 k3 k4 k5 l0 l1 l2 l3 l4 l5
          refine ((HU.out xa xn xc ua un uc _ (RX.out.under N4.out) (RY.out.under N4.out)).2.2.2.1).mono ?_
          rintro e va3 ⟨r3, m3, s3, rfl, hb, hr, hx⟩
          obtain ⟨wb3, hw⟩ : ∃ u, ((va3.setCell ⟨b1, 0, none⟩ (.slice r3 m3 s3)).setCell ⟨b1, 1, none⟩ (.int .i64 s.p)).setCell ⟨b1, 2, none⟩ (.int .i64 s.inc) = u := ⟨_, rfl⟩
          have ne0 : ∀ y : Addr, r3 = some y → 1 ≤ m3 → y.block ≠ b0 := fun y hy _ => by have := hx y hy; have := V0.out.lt; omega
          have ne1 : ∀ y : Addr, r3 = some y → 1 ≤ m3 → y.block ≠ b1 := fun y hy _ => by have := hx y hy; have := V1.out.lt; omega
          have K3 := Lib.hid (V1.out.below hb)
          have V0 := Lib.hid (show Cur3 wb3 b0 _ _ _ by rw [← hw]; exact (((V0.out.below hb).other (Ne.symm NE10.out) 0 _).other (Ne.symm NE10.out) 1 _).other (Ne.symm NE10.out) 2 _)
          have V1 := Lib.hid (show Cur3 wb3 b1 (.slice r3 m3 s3) (.int .i64 s.p) (.int .i64 s.inc) by rw [← hw]; exact (V1.out.below hb).set _ _ _)
          have R1 := Lib.hid (show RowZ wb3 r3 m3 s3 s.zs by rw [← hw]; exact ((hr.store ne1 _ _).store ne1 _ _).store ne1 _ _)
          have R0 := Lib.hid (show RowZ wb3 r2 m2 s2 s.zs by rw [← hw]; exact (((R0.out.under hb).store FR.out _ _).store FR.out _ _).store FR.out _ _)
          have N5 := Lib.hid (show Below wE.heap.size wE wb3 by rw [← hw]; exact (((N4.out.trans (hb.mono N4.out.size)).setCell (p := ⟨b1, 0, none⟩) LB1.out _).setCell (p := ⟨b1, 1, none⟩) LB1.out _).setCell (p := ⟨b1, 2, none⟩) LB1.out _)
          have HW3 := Lib.hid hw
          obtain ⟨c0, c1, c2, f0, f1, f2⟩ := K3.out
          clear hb hr hx hw ne0 ne1
          go_upto_region 19 with fail
          try rw [HW3.out]
          clear c0 c1 c2 f0 f1 f2
          obtain ⟨k0, k1, k2, k3, k4, k5⟩ := C3E.out.below N5.out
          obtain ⟨l0, l1, l2, l3, l4, l5⟩ := CYE.out.below N5.out
          clear k0 k1 k2 k3 k4 k5 l0 l1 l2 l3 l4 l5
          obtain ⟨c0, c1, c2, f0, f1, f2⟩ := V0.out
          obtain ⟨d0, d1, d2, g0, g1, g2⟩ := V1.out
          go_wp2_with fail
          clear c0 c1 c2 f0 f1 f2 d0 d1 d2 g0 g1 g2
          refine (rsame_any r2 m2 s2 s.zs s.p s.inc r3 m3 s3 s.zs s.p s.inc true (sameB_self _ _ _) _ R0.out R1.out).mono ?_
          rintro e wz2 ⟨rfl, hb⟩
          have N6 := Lib.hid (N5.out.trans (hb.mono N5.out.size))
          have V0 := Lib.hid (V0.out.below hb)
          have V1 := Lib.hid (V1.out.below hb)
          clear hb R0 R1
          obtain ⟨k0, k1, k2, k3, k4, k5⟩ := C3E.out.below N6.out
          obtain ⟨l0, l1, l2, l3, l4, l5⟩ := CYE.out.below N6.out
          go_wp2_with fail
          clear k0 k1 k2 k3 k4 k5 l0 l1 l2 l3 l4 l5
          refine ((HU.out xa xn xc ua un uc _ (RX.out.under N6.out) (RY.out.under N6.out)).2.2.2.2.1).mono ?_
          rintro e va4 ⟨r4, m4, s4, rfl, hb, hr, hx⟩
          obtain ⟨wb4, hw⟩ : ∃ u, ((va4.setCell ⟨b0, 0, none⟩ (.slice r4 m4 s4)).setCell ⟨b0, 1, none⟩ (.int .i64 t.p)).setCell ⟨b0, 2, none⟩ (.int .i64 t.inc) = u := ⟨_, rfl⟩
          have ne0 : ∀ y : Addr, r4 = some y → 1 ≤ m4 → y.block ≠ b0 := fun y hy _ => by have := hx y hy; have := V0.out.lt; omega
          have ne1 : ∀ y : Addr, r4 = some y → 1 ≤ m4 → y.block ≠ b1 := fun y hy _ => by have := hx y hy; have := V1.out.lt; omega
          have K4 := Lib.hid (V0.out.below hb)
          have V1 := Lib.hid (show Cur3 wb4 b1 _ _ _ by rw [← hw]; exact (((V1.out.below hb).other NE10.out 0 _).other NE10.out 1 _).other NE10.out 2 _)
          have V0 := Lib.hid (show Cur3 wb4 b0 (.slice r4 m4 s4) (.int .i64 t.p) (.int .i64 t.inc) by rw [← hw]; exact (V0.out.below hb).set _ _ _)
          have R0 := Lib.hid (show RowZ wb4 r4 m4 s4 t.zs by rw [← hw]; exact ((hr.store ne0 _ _).store ne0 _ _).store ne0 _ _)
          have FR := Lib.hid (show ∀ y : Addr, r4 = some y → 1 ≤ m4 → y.block ≠ b1 from ne1)
          have N7 := Lib.hid (show Below wE.heap.size wE wb4 by rw [← hw]; exact (((N6.out.trans (hb.mono N6.out.size)).setCell (p := ⟨b0, 0, none⟩) LB0.out _).setCell (p := ⟨b0, 1, none⟩) LB0.out _).setCell (p := ⟨b0, 2, none⟩) LB0.out _)
          have HW4 := Lib.hid hw
          obtain ⟨c0, c1, c2, f0, f1, f2⟩ := K4.out
          clear hb hr hx hw ne0 ne1
          go_upto_region 22 with fail
          try rw [HW4.out]
          clear c0 c1 c2 f0 f1 f2
          obtain ⟨k0, k1, k2, k3, k4, k5⟩ := C3E.out.below N7.out
          obtain ⟨l0, l1, l2, l3, l4, l5⟩ := CYE.out.below N7.out
          go_wp2_with fail
          clear k0 k1 k2 k3 k4 k5 l0 l1 l2 l3 l4 l5
          refine ((HU.out xa xn xc ua un uc _ (RX.out.under N7.out) (RY.out.under N7.out)).2.2.2.2.2).mono ?_
          rintro e va5 ⟨r5, m5, s5, rfl, hb, hr, hx⟩
          obtain ⟨wb5, hw⟩ : ∃ u, ((va5.setCell ⟨b1, 0, none⟩ (.slice r5 m5 s5)).setCell ⟨b1, 1, none⟩ (.int .i64 t.p)).setCell ⟨b1, 2, none⟩ (.int .i64 t.inc) = u := ⟨_, rfl⟩
          have ne0 : ∀ y : Addr, r5 = some y → 1 ≤ m5 → y.block ≠ b0 := fun y hy _ => by have := hx y hy; have := V0.out.lt; omega
          have ne1 : ∀ y : Addr, r5 = some y → 1 ≤ m5 → y.block ≠ b1 := fun y hy _ => by have := hx y hy; have := V1.out.lt; omega
          have K5 := Lib.hid (V1.out.below hb)
          have V0 := Lib.hid (show Cur3 wb5 b0 _ _ _ by rw [← hw]; exact (((V0.out.below hb).other (Ne.symm NE10.out) 0 _).other (Ne.symm NE10.out) 1 _).other (Ne.symm NE10.out) 2 _)
          have V1 := Lib.hid (show Cur3 wb5 b1 (.slice r5 m5 s5) (.int .i64 t.p) (.int .i64 t.inc) by rw [← hw]; exact (V1.out.below hb).set _ _ _)
          have R1 := Lib.hid (show RowZ wb5 r5 m5 s5 t.zs by rw [← hw]; exact ((hr.store ne1 _ _).store ne1 _ _).store ne1 _ _)
          have R0 := Lib.hid (show RowZ wb5 r4 m4 s4 t.zs by rw [← hw]; exact (((R0.out.under hb).store FR.out _ _).store FR.out _ _).store FR.out _ _)
          have N8 := Lib.hid (show Below wE.heap.size wE wb5 by rw [← hw]; exact (((N7.out.trans (hb.mono N7.out.size)).setCell (p := ⟨b1, 0, none⟩) LB1.out _).setCell (p := ⟨b1, 1, none⟩) LB1.out _).setCell (p := ⟨b1, 2, none⟩) LB1.out _)
          have HW5 := Lib.hid hw
          obtain ⟨c0, c1, c2, f0, f1, f2⟩ := K5.out
          clear hb hr hx hw ne0 ne1
          go_upto_region 23 with fail
          try rw [HW5.out]
          clear c0 c1 c2 f0 f1 f2
          obtain ⟨k0, k1, k2, k3, k4, k5⟩ := C3E.out.below N8.out
          obtain ⟨l0, l1, l2, l3, l4, l5⟩ := CYE.out.below N8.out
          clear k0 k1 k2 k3 k4 k5 l0 l1 l2 l3 l4 l5
          obtain ⟨c0, c1, c2, f0, f1, f2⟩ := V0.out
          obtain ⟨d0, d1, d2, g0, g1, g2⟩ := V1.out
          go_wp2_with fail
          clear c0 c1 c2 f0 f1 f2 d0 d1 d2 g0 g1 g2
          refine (rsame_any r4 m4 s4 t.zs t.p t.inc r5 m5 s5 t.zs t.p t.inc true (sameB_self _ _ _) _ R0.out R1.out).mono ?_
          rintro e wz4 ⟨rfl, hb⟩
          have N9 := Lib.hid (N8.out.trans (hb.mono N8.out.size))
          have V0 := Lib.hid (V0.out.below hb)
          have V1 := Lib.hid (V1.out.below hb)
          clear hb R0 R1
          go_wp2_with fail
          go_roundw
          case rel => exact ⟨j + 1, by go_num, by omega, Lib.hid (LE.out.trans (N9.out.mono LE.out.size))⟩
          case measure => simp [intOf]; omega
        have hji : ¬ (j : Int) < 5 := by omega
        have HLE := Lib.hid (HL11.out.below HLj.out)
        clear HLj
        go_wp2_with fail
        go_roundw
        case rel => exact ⟨k + 1, by go_num, by omega, HLE⟩
        case measure => simp [intOf]; omega
      have hki : ¬ (k : Int) < 7 := by omega
      have HBE := Lib.hid (HB10.out.trans (HL.out.ap.below HZ0.out.1 HB10.out.size))
      go_wp2_with fail
      refine (awake5 _).mono ?_
      rintro e z2 ⟨rfl, hb⟩
      have HBZ := Lib.hid (HBE.out.trans (hb.mono HBE.out.size))
      clear hb
      go_wp2_with fail
      go_ret
      exact ⟨rfl, HBZ.out⟩

end Go.Proofs.Ytjipmkgnndldpaa
