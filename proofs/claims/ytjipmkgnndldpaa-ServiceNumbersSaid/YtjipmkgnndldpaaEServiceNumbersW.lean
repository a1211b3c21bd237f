/- The walk of ServiceNumbers. By the verifier's side. -/
import Derived.Test.YtjipmkgnndldpaaESvY
namespace Go.Proofs.Ytjipmkgnndldpaa
open Go.RowKit
set_option linter.unusedSimpArgs false
set_option linter.unusedVariables false

set_option maxRecDepth 100000 in
set_option maxHeartbeats 6400000 in
theorem serviceNumbers_walk (W : World) (pn pd ln ld bn bd an ad : Int) (A9 : Option Addr) (n9 c9 : Nat) (hls : n9 ≤ 30 → ∀ b, W.heap.size ≤ b → IsB b W A9 n9 c9) (a : Option Addr) (n cap : Nat) (hrow : RowAt W a n cap) :
    Calls Try.prog 4 #[bucketV pn pd ln ld, bucketV bn bd an ad, .slice A9 n9 c9, .slice a n cap] W fun e w' => e = .returned (.bool true) ∧ Below W.heap.size W w' := by
  obtain ⟨W0, hw⟩ : ∃ w', (W.alloc (.cells #[.int .i64 pn, .int .i64 pd, .int .i64 ln, .int .i64 ld] 25)).alloc (.cells #[.int .i64 bn, .int .i64 bd, .int .i64 an, .int .i64 ad] 46) = w' := ⟨_, rfl⟩
  have hz : Below W.heap.size W W0 := by rw [← hw]; exact (below_box _).alloc (by simp) _
  have X0 := Lib.hid (show Bk4 W0 W.heap.size pn pd ln ld by rw [← hw]; exact (Bk4.new _ _ _ _ _ _).below (below_box _))
  have XS0 := Lib.hid (show Bk4 W0 (W.heap.size + 1) bn bd an ad by rw [← hw]; have := Bk4.new (W.alloc (.cells #[.int .i64 pn, .int .i64 pd, .int .i64 ln, .int .i64 ld] 25)) bn bd an ad 46; simpa using this)
  have HR := Lib.hid (hrow.under hz)
  have HLS := Lib.hid (show n9 ≤ 30 → IsB W0.heap.size W0 A9 n9 c9 from fun h => (hls h _ hz.size).under hz)
  have HB0 := Lib.hid hz
  have HW := Lib.hid hw
  clear hrow hz hw hls
  go_enter Try.func4, Try.ntmps4
  go_upto_region 1 with fail
  rw [HW.out]
  clear HW
  by_cases h5 : 30 < n9
  · have h5i : (30 : Int) < (n9 : Int) := by omega
    go_wp2_with fail
    refine (awake12 _).mono ?_
    rintro e z2 ⟨rfl, hb⟩
    have HBZ := Lib.hid (HB0.out.trans (hb.mono HB0.out.size))
    clear hb
    go_wp2_with fail
    go_ret
    exact ⟨rfl, HBZ.out⟩
  have h5i : ¬ (30 : Int) < (n9 : Int) := by omega
  have L0 := Lib.hid (HLS.out (by omega))
  clear HLS
  go_wp2_with fail
  refine (new_any a n cap _ HR.out).mono ?_
  rintro e u1 ⟨rfl, hb1, hz1', ra, rn, rc, hs1⟩
  have hlW : W.heap.size + 1 < W0.heap.size := XS0.out.lt
  have hneP : W.heap.size ≠ W0.heap.size := by omega
  have hneS : W.heap.size + 1 ≠ W0.heap.size := by omega
  have X1 := Lib.hid (X0.out.below hb1)
  have XS1 := Lib.hid (XS0.out.below hb1)
  have L1 := Lib.hid (L0.out.under hb1)
  have HB1 := Lib.hid (HB0.out.trans (hb1.mono HB0.out.size))
  have HS1 := Lib.hid hs1
  have HD := Lib.hid (Held.start hs1)
  clear hb1 hz1' hs1 X0 XS0 HB0 L0 HR
  go_wp2_with fail
  refine (lratio12_any W0.heap.size ra rn rc _ HS1.out).mono ?_
  rintro e u4 ⟨x7, y7, hp, rfl, hs, he⟩
  have HD4 := Lib.hid (HD.out.call hs he)
  clear hs he hp HD
  go_wp2_with fail
  refine (lratio12_any W0.heap.size ra rn rc _ (HD4.out.at HS1.out)).mono ?_
  rintro e u5 ⟨x8, y8, hp, rfl, hs, he⟩
  have HD5 := Lib.hid (HD4.out.call hs he)
  clear hs he hp HD4
  obtain ⟨w6, hw⟩ : ∃ w', u5.alloc (.cells #[.int .i64 x7, .int .i64 y7, .int .i64 x8, .int .i64 y8] 25) = w' := ⟨_, rfl⟩
  have hz : Below u5.heap.size u5 w6 := by rw [← hw]; exact below_box _
  have HD6 := Lib.hid (HD5.out.below hz)
  have XC6 := Lib.hid (show Bk4 w6 u5.heap.size x7 y7 x8 y8 by rw [← hw]; exact Bk4.new _ _ _ _ _ _)
  have X6 := Lib.hid (X1.out.apart HD6.out.ap hneP)
  have XS6 := Lib.hid (XS1.out.apart HD6.out.ap hneS)
  have L6 := Lib.hid (L1.out.apart HD6.out.ap)
  have HS6 := Lib.hid (HD6.out.at HS1.out)
  have HBW6 := Lib.hid (show Below W.heap.size W w6 from HB1.out.trans (HD6.out.ap.below (by omega) (by have := HB1.out.size; omega)))
  have hCb : u5.heap.size ≠ W0.heap.size := by have := HD5.out.lt; omega
  have HW := Lib.hid hw
  clear hw hz HD5 HD6 X1 XS1 L1 HB1 HS1
  go_upto_region 5 with fail
  try rw [HW.out]
  obtain ⟨C, hC⟩ : ∃ B, u5.heap.size = B := ⟨_, rfl⟩
  rw [hC] at XC6 hCb
  try rw [hC]
  clear HW hC
  have HDZ := Lib.hid (Held.start HS6.out)
  go_cut [47, 48, 49] (fun s47 s48 s49 wx => ∃ T2 : Nat, s47 = .slice (some ⟨T2, 0, none⟩) 4 4 ∧ s48 = .int .i64 4 ∧ s49 = .int .i64 0 ∧ ¬ T2 = W0.heap.size ∧ Hid (Sb4 W0.heap.size wx T2) ∧ Hid (Held w6 W0.heap.size ra rn rc wx))
  case first =>
    refine wp_region_inv 36 14 (fun ts listed wx => ∃ t36 t37 t38 t39 t40 t41 t42 t43 t44 t45 t46 t47 t48 t49 : Value, ts = [t36, t37, t38, t39, t40, t41, t42, t43, t44, t45, t46, t47, t48, t49] ∧ Hid (Held w6 W0.heap.size ra rn rc wx) ∧ (listed.getD 0 false = true → VA W0.heap.size A9 n9 c9 t36 wx) ∧ (listed.getD 1 false = true → t37 = .agg #[.int .i64 pn, .int .i64 pd, .int .i64 ln, .int .i64 ld]) ∧ (listed.getD 2 false = true → t38 = .agg #[.int .i64 x7, .int .i64 y7, .int .i64 x8, .int .i64 y8]) ∧ (listed.getD 3 false = true → VB W0.heap.size 2 t39 wx) ∧ (listed.getD 4 false = true → t40 = .agg #[.int .i64 x7, .int .i64 y7, .int .i64 x8, .int .i64 y8]) ∧ (listed.getD 5 false = true → t41 = .pointer (some ⟨W0.heap.size, 0, none⟩)) ∧ (listed.getD 6 false = true → VF t42) ∧ (listed.getD 7 false = true → t43 = .pointer (some ⟨W0.heap.size, 0, none⟩)) ∧ (listed.getD 8 false = true → VF t44) ∧ (listed.getD 9 false = true → VK t45) ∧ (listed.getD 10 false = true → VB W0.heap.size 2 t46 wx) ∧ (listed.getD 11 false = true → VM4 W0.heap.size t47 wx) ∧ (listed.getD 12 false = true → t48 = .int .i64 4) ∧ (listed.getD 13 false = true → t49 = .int .i64 0)) (by kernel_rfl) (by kernel_rfl) ?h0 ?hstep ?hdone
    case h0 =>
      exact ⟨_, _, _, _, _, _, _, _, _, _, _, _, _, _, rfl, HDZ.out.drew, (fun h => absurd h (by decide)), (fun h => absurd h (by decide)), (fun h => absurd h (by decide)), (fun h => absurd h (by decide)), (fun h => absurd h (by decide)), (fun h => absurd h (by decide)), (fun h => absurd h (by decide)), (fun h => absurd h (by decide)), (fun h => absurd h (by decide)), (fun h => absurd h (by decide)), (fun h => absurd h (by decide)), (fun h => absurd h (by decide)), (fun h => absurd h (by decide)), (fun h => absurd h (by decide))⟩
    case hstep =>
      refine StepsI.cons (j := 1) rfl ?s0 (StepsI.cons (j := 2) rfl ?s1 (StepsI.cons (j := 3) rfl ?s2 (StepsI.cons (j := 4) rfl ?s3 (StepsI.cons (j := 5) rfl ?s4 (StepsI.cons (j := 6) rfl ?s5 (StepsI.cons (j := 7) rfl ?s6 (StepsI.cons (j := 8) rfl ?s7 (StepsI.cons (j := 9) rfl ?s8 (StepsI.cons (j := 10) rfl ?s9 (StepsI.cons (j := 11) rfl ?s10 (StepsI.cons (j := 12) rfl ?s11 (StepsI.cons (j := 13) rfl ?s12 (StepsI.cons (j := 14) rfl ?s13 (StepsI.nil))))))))))))))
      case s0 =>
        intro listed ts wx hall hI K hK
        obtain ⟨t36, t37, t38, t39, t40, t41, t42, t43, t44, t45, t46, t47, t48, t49, hts, HH, h0, h1, h2, h3, h4, h5, h6, h7, h8, h9, h10, h11, h12, h13⟩ := hI
        rw [if_pos (by rfl)]
        subst hts
        simp only [putL, Act.put, List.getElem_toArray, List.getElem_cons_zero, List.getElem_cons_succ, List.setIfInBounds_toArray, List.set_cons_zero, List.set_cons_succ]
        go_simp
        have hk := hK.out _ _ ⟨_, t37, t38, t39, t40, t41, t42, t43, t44, t45, t46, t47, t48, t49, rfl, HH, (fun _ => ⟨rfl, L6.out.apart HH.out.ap⟩), (keepV h1 (by decide)), (keepV h2 (by decide)), (keepV h3 (by decide)), (keepV h4 (by decide)), (keepV h5 (by decide)), (keepV h6 (by decide)), (keepV h7 (by decide)), (keepV h8 (by decide)), (keepV h9 (by decide)), (keepV h10 (by decide)), (keepV h11 (by decide)), (keepV h12 (by decide)), (keepV h13 (by decide))⟩
        simp only [putL, Act.put, List.getElem_toArray, List.getElem_cons_zero, List.getElem_cons_succ, List.setIfInBounds_toArray, List.set_cons_zero, List.set_cons_succ] at hk
        exact hk
      case s1 =>
        intro listed ts wx hall hI K hK
        obtain ⟨t36, t37, t38, t39, t40, t41, t42, t43, t44, t45, t46, t47, t48, t49, hts, HH, h0, h1, h2, h3, h4, h5, h6, h7, h8, h9, h10, h11, h12, h13⟩ := hI
        rw [if_pos (by rfl)]
        subst hts
        simp only [putL, Act.put, List.getElem_toArray, List.getElem_cons_zero, List.getElem_cons_succ, List.setIfInBounds_toArray, List.set_cons_zero, List.set_cons_succ]
        obtain ⟨q0, q1, q2, q3⟩ := X6.out.apart HH.out.ap hneP
        go_simp
        have hk := hK.out _ _ ⟨t36, _, t38, t39, t40, t41, t42, t43, t44, t45, t46, t47, t48, t49, rfl, HH, (keepV h0 (by decide)), (fun _ => rfl), (keepV h2 (by decide)), (keepV h3 (by decide)), (keepV h4 (by decide)), (keepV h5 (by decide)), (keepV h6 (by decide)), (keepV h7 (by decide)), (keepV h8 (by decide)), (keepV h9 (by decide)), (keepV h10 (by decide)), (keepV h11 (by decide)), (keepV h12 (by decide)), (keepV h13 (by decide))⟩
        simp only [putL, Act.put, List.getElem_toArray, List.getElem_cons_zero, List.getElem_cons_succ, List.setIfInBounds_toArray, List.set_cons_zero, List.set_cons_succ] at hk
        exact hk
      case s2 =>
        intro listed ts wx hall hI K hK
        obtain ⟨t36, t37, t38, t39, t40, t41, t42, t43, t44, t45, t46, t47, t48, t49, hts, HH, h0, h1, h2, h3, h4, h5, h6, h7, h8, h9, h10, h11, h12, h13⟩ := hI
        rw [if_pos (by rfl)]
        subst hts
        simp only [putL, Act.put, List.getElem_toArray, List.getElem_cons_zero, List.getElem_cons_succ, List.setIfInBounds_toArray, List.set_cons_zero, List.set_cons_succ]
        obtain ⟨q0, q1, q2, q3⟩ := XC6.out.apart HH.out.ap hCb
        go_simp
        have hk := hK.out _ _ ⟨t36, t37, _, t39, t40, t41, t42, t43, t44, t45, t46, t47, t48, t49, rfl, HH, (keepV h0 (by decide)), (keepV h1 (by decide)), (fun _ => rfl), (keepV h3 (by decide)), (keepV h4 (by decide)), (keepV h5 (by decide)), (keepV h6 (by decide)), (keepV h7 (by decide)), (keepV h8 (by decide)), (keepV h9 (by decide)), (keepV h10 (by decide)), (keepV h11 (by decide)), (keepV h12 (by decide)), (keepV h13 (by decide))⟩
        simp only [putL, Act.put, List.getElem_toArray, List.getElem_cons_zero, List.getElem_cons_succ, List.setIfInBounds_toArray, List.set_cons_zero, List.set_cons_succ] at hk
        exact hk
      case s3 =>
        intro listed ts wx hall hI K hK
        obtain ⟨t36, t37, t38, t39, t40, t41, t42, t43, t44, t45, t46, t47, t48, t49, hts, HH, h0, h1, h2, h3, h4, h5, h6, h7, h8, h9, h10, h11, h12, h13⟩ := hI
        rw [if_pos (by rfl)]
        subst hts
        simp only [putL, Act.put, List.getElem_toArray, List.getElem_cons_zero, List.getElem_cons_succ, List.setIfInBounds_toArray, List.set_cons_zero, List.set_cons_succ]
        have d1 : listed.getD 1 false = true := hall ⟨1, Ground.data⟩ (by simp) (by rfl)
        obtain rfl := h1 d1
        have d2 : listed.getD 2 false = true := hall ⟨2, Ground.data⟩ (by simp) (by rfl)
        obtain rfl := h2 d2
        have hlt := HH.out.lt
        go_simp
        have HH2 := Lib.hid (HH.out.alloc (.cells #[.int .i64 pn, .int .i64 pd, .int .i64 ln, .int .i64 ld, .int .i64 x7, .int .i64 y7, .int .i64 x8, .int .i64 y8] 25))
        have hap := (Apart.refl W0.heap.size wx).alloc (.cells #[.int .i64 pn, .int .i64 pd, .int .i64 ln, .int .i64 ld, .int .i64 x7, .int .i64 y7, .int .i64 x8, .int .i64 y8] 25)
        have hk := hK.out _ _ ⟨t36, _, _, _, t40, t41, t42, t43, t44, t45, t46, t47, t48, t49, rfl, HH2, (fun hd => (keepV h0 (by decide) hd).apart hap), (keepV h1 (by decide)), (keepV h2 (by decide)), (fun _ => ⟨some ⟨wx.heap.size, 0, none⟩, rfl, IsB.block (rowC_two wx ⟨pn, pd, ln, ld⟩ ⟨x7, y7, x8, y8⟩ 25) (Nat.ne_of_gt hlt) rfl (by omega) (by omega)⟩), (keepV h4 (by decide)), (keepV h5 (by decide)), (keepV h6 (by decide)), (keepV h7 (by decide)), (keepV h8 (by decide)), (keepV h9 (by decide)), (fun hd => (keepV h10 (by decide) hd).apart hap), (fun hd => (keepV h11 (by decide) hd).apart hap), (keepV h12 (by decide)), (keepV h13 (by decide))⟩
        simp only [putL, Act.put, List.getElem_toArray, List.getElem_cons_zero, List.getElem_cons_succ, List.setIfInBounds_toArray, List.set_cons_zero, List.set_cons_succ] at hk
        exact hk
      case s4 =>
        intro listed ts wx hall hI K hK
        obtain ⟨t36, t37, t38, t39, t40, t41, t42, t43, t44, t45, t46, t47, t48, t49, hts, HH, h0, h1, h2, h3, h4, h5, h6, h7, h8, h9, h10, h11, h12, h13⟩ := hI
        rw [if_pos (by rfl)]
        subst hts
        simp only [putL, Act.put, List.getElem_toArray, List.getElem_cons_zero, List.getElem_cons_succ, List.setIfInBounds_toArray, List.set_cons_zero, List.set_cons_succ]
        obtain ⟨q0, q1, q2, q3⟩ := XC6.out.apart HH.out.ap hCb
        go_simp
        have hk := hK.out _ _ ⟨t36, t37, t38, t39, _, t41, t42, t43, t44, t45, t46, t47, t48, t49, rfl, HH, (keepV h0 (by decide)), (keepV h1 (by decide)), (keepV h2 (by decide)), (keepV h3 (by decide)), (fun _ => rfl), (keepV h5 (by decide)), (keepV h6 (by decide)), (keepV h7 (by decide)), (keepV h8 (by decide)), (keepV h9 (by decide)), (keepV h10 (by decide)), (keepV h11 (by decide)), (keepV h12 (by decide)), (keepV h13 (by decide))⟩
        simp only [putL, Act.put, List.getElem_toArray, List.getElem_cons_zero, List.getElem_cons_succ, List.setIfInBounds_toArray, List.set_cons_zero, List.set_cons_succ] at hk
        exact hk
      case s5 =>
        intro listed ts wx hall hI K hK
        obtain ⟨t36, t37, t38, t39, t40, t41, t42, t43, t44, t45, t46, t47, t48, t49, hts, HH, h0, h1, h2, h3, h4, h5, h6, h7, h8, h9, h10, h11, h12, h13⟩ := hI
        rw [if_pos (by rfl)]
        subst hts
        simp only [putL, Act.put, List.getElem_toArray, List.getElem_cons_zero, List.getElem_cons_succ, List.setIfInBounds_toArray, List.set_cons_zero, List.set_cons_succ]
        go_simp
        have hk := hK.out _ _ ⟨t36, t37, t38, t39, t40, _, t42, t43, t44, t45, t46, t47, t48, t49, rfl, HH, (keepV h0 (by decide)), (keepV h1 (by decide)), (keepV h2 (by decide)), (keepV h3 (by decide)), (keepV h4 (by decide)), (fun _ => rfl), (keepV h6 (by decide)), (keepV h7 (by decide)), (keepV h8 (by decide)), (keepV h9 (by decide)), (keepV h10 (by decide)), (keepV h11 (by decide)), (keepV h12 (by decide)), (keepV h13 (by decide))⟩
        simp only [putL, Act.put, List.getElem_toArray, List.getElem_cons_zero, List.getElem_cons_succ, List.setIfInBounds_toArray, List.set_cons_zero, List.set_cons_succ] at hk
        exact hk
      case s6 =>
        intro listed ts wx hall hI K hK
        obtain ⟨t36, t37, t38, t39, t40, t41, t42, t43, t44, t45, t46, t47, t48, t49, hts, HH, h0, h1, h2, h3, h4, h5, h6, h7, h8, h9, h10, h11, h12, h13⟩ := hI
        rw [if_pos (by rfl)]
        subst hts
        simp only [putL, Act.put, List.getElem_toArray, List.getElem_cons_zero, List.getElem_cons_succ, List.setIfInBounds_toArray, List.set_cons_zero, List.set_cons_succ]
        have d5 : listed.getD 5 false = true := hall ⟨5, Ground.data⟩ (by simp) (by rfl)
        obtain rfl := h5 d5
        go_simp
        with_reducible refine (frac_any 5 3 (by omega) (by omega) (by omega) (by omega) W0.heap.size ra rn rc _ (HH.out.at HS6.out)).mono ?_
        rintro e w9 ⟨x, y, hxy, rfl, hs, hap⟩
        have HH2 := Lib.hid (HH.out.call hs hap)
        have hk := hK.out _ _ ⟨t36, t37, t38, t39, t40, _, .agg #[.int .i64 x, .int .i64 y], t43, t44, t45, t46, t47, t48, t49, rfl, HH2, (fun hd => (keepV h0 (by decide) hd).apart hap), (keepV h1 (by decide)), (keepV h2 (by decide)), (fun hd => (keepV h3 (by decide) hd).apart hap), (keepV h4 (by decide)), (keepV h5 (by decide)), (fun _ => ⟨_, _, rfl⟩), (keepV h7 (by decide)), (keepV h8 (by decide)), (keepV h9 (by decide)), (fun hd => (keepV h10 (by decide) hd).apart hap), (fun hd => (keepV h11 (by decide) hd).apart hap), (keepV h12 (by decide)), (keepV h13 (by decide))⟩
        simp only [putL, Act.put, List.getElem_toArray, List.getElem_cons_zero, List.getElem_cons_succ, List.setIfInBounds_toArray, List.set_cons_zero, List.set_cons_succ] at hk
        exact hk
      case s7 =>
        intro listed ts wx hall hI K hK
        obtain ⟨t36, t37, t38, t39, t40, t41, t42, t43, t44, t45, t46, t47, t48, t49, hts, HH, h0, h1, h2, h3, h4, h5, h6, h7, h8, h9, h10, h11, h12, h13⟩ := hI
        rw [if_pos (by rfl)]
        subst hts
        simp only [putL, Act.put, List.getElem_toArray, List.getElem_cons_zero, List.getElem_cons_succ, List.setIfInBounds_toArray, List.set_cons_zero, List.set_cons_succ]
        go_simp
        have hk := hK.out _ _ ⟨t36, t37, t38, t39, t40, t41, t42, _, t44, t45, t46, t47, t48, t49, rfl, HH, (keepV h0 (by decide)), (keepV h1 (by decide)), (keepV h2 (by decide)), (keepV h3 (by decide)), (keepV h4 (by decide)), (keepV h5 (by decide)), (keepV h6 (by decide)), (fun _ => rfl), (keepV h8 (by decide)), (keepV h9 (by decide)), (keepV h10 (by decide)), (keepV h11 (by decide)), (keepV h12 (by decide)), (keepV h13 (by decide))⟩
        simp only [putL, Act.put, List.getElem_toArray, List.getElem_cons_zero, List.getElem_cons_succ, List.setIfInBounds_toArray, List.set_cons_zero, List.set_cons_succ] at hk
        exact hk
      case s8 =>
        intro listed ts wx hall hI K hK
        obtain ⟨t36, t37, t38, t39, t40, t41, t42, t43, t44, t45, t46, t47, t48, t49, hts, HH, h0, h1, h2, h3, h4, h5, h6, h7, h8, h9, h10, h11, h12, h13⟩ := hI
        rw [if_pos (by rfl)]
        subst hts
        simp only [putL, Act.put, List.getElem_toArray, List.getElem_cons_zero, List.getElem_cons_succ, List.setIfInBounds_toArray, List.set_cons_zero, List.set_cons_succ]
        have d7 : listed.getD 7 false = true := hall ⟨7, Ground.data⟩ (by simp) (by rfl)
        obtain rfl := h7 d7
        go_simp
        with_reducible refine (frac_any 5 3 (by omega) (by omega) (by omega) (by omega) W0.heap.size ra rn rc _ (HH.out.at HS6.out)).mono ?_
        rintro e w9 ⟨x, y, hxy, rfl, hs, hap⟩
        have HH2 := Lib.hid (HH.out.call hs hap)
        have hk := hK.out _ _ ⟨t36, t37, t38, t39, t40, t41, t42, _, .agg #[.int .i64 x, .int .i64 y], t45, t46, t47, t48, t49, rfl, HH2, (fun hd => (keepV h0 (by decide) hd).apart hap), (keepV h1 (by decide)), (keepV h2 (by decide)), (fun hd => (keepV h3 (by decide) hd).apart hap), (keepV h4 (by decide)), (keepV h5 (by decide)), (keepV h6 (by decide)), (keepV h7 (by decide)), (fun _ => ⟨_, _, rfl⟩), (keepV h9 (by decide)), (fun hd => (keepV h10 (by decide) hd).apart hap), (fun hd => (keepV h11 (by decide) hd).apart hap), (keepV h12 (by decide)), (keepV h13 (by decide))⟩
        simp only [putL, Act.put, List.getElem_toArray, List.getElem_cons_zero, List.getElem_cons_succ, List.setIfInBounds_toArray, List.set_cons_zero, List.set_cons_succ] at hk
        exact hk
      case s9 =>
        intro listed ts wx hall hI K hK
        obtain ⟨t36, t37, t38, t39, t40, t41, t42, t43, t44, t45, t46, t47, t48, t49, hts, HH, h0, h1, h2, h3, h4, h5, h6, h7, h8, h9, h10, h11, h12, h13⟩ := hI
        rw [if_pos (by rfl)]
        subst hts
        simp only [putL, Act.put, List.getElem_toArray, List.getElem_cons_zero, List.getElem_cons_succ, List.setIfInBounds_toArray, List.set_cons_zero, List.set_cons_succ]
        have d6 : listed.getD 6 false = true := hall ⟨6, Ground.data⟩ (by simp) (by rfl)
        obtain ⟨x, y, rfl⟩ := h6 d6
        have d8 : listed.getD 8 false = true := hall ⟨8, Ground.data⟩ (by simp) (by rfl)
        obtain ⟨x2, y2, rfl⟩ := h8 d8
        go_simp
        have hk := hK.out _ _ ⟨t36, t37, t38, t39, t40, t41, _, t43, _, .agg #[.int .i64 x, .int .i64 y, .int .i64 x2, .int .i64 y2], t46, t47, t48, t49, rfl, HH, (keepV h0 (by decide)), (keepV h1 (by decide)), (keepV h2 (by decide)), (keepV h3 (by decide)), (keepV h4 (by decide)), (keepV h5 (by decide)), (keepV h6 (by decide)), (keepV h7 (by decide)), (keepV h8 (by decide)), (fun _ => ⟨_, _, _, _, rfl⟩), (keepV h10 (by decide)), (keepV h11 (by decide)), (keepV h12 (by decide)), (keepV h13 (by decide))⟩
        simp only [putL, Act.put, List.getElem_toArray, List.getElem_cons_zero, List.getElem_cons_succ, List.setIfInBounds_toArray, List.set_cons_zero, List.set_cons_succ] at hk
        exact hk
      case s10 =>
        intro listed ts wx hall hI K hK
        obtain ⟨t36, t37, t38, t39, t40, t41, t42, t43, t44, t45, t46, t47, t48, t49, hts, HH, h0, h1, h2, h3, h4, h5, h6, h7, h8, h9, h10, h11, h12, h13⟩ := hI
        rw [if_pos (by rfl)]
        subst hts
        simp only [putL, Act.put, List.getElem_toArray, List.getElem_cons_zero, List.getElem_cons_succ, List.setIfInBounds_toArray, List.set_cons_zero, List.set_cons_succ]
        have d4 : listed.getD 4 false = true := hall ⟨4, Ground.data⟩ (by simp) (by rfl)
        obtain rfl := h4 d4
        have d9 : listed.getD 9 false = true := hall ⟨9, Ground.data⟩ (by simp) (by rfl)
        obtain ⟨x, y, x2, y2, rfl⟩ := h9 d9
        have hlt := HH.out.lt
        go_simp
        have HH2 := Lib.hid (HH.out.alloc (.cells #[.int .i64 x7, .int .i64 y7, .int .i64 x8, .int .i64 y8, .int .i64 x, .int .i64 y, .int .i64 x2, .int .i64 y2] 25))
        have hap := (Apart.refl W0.heap.size wx).alloc (.cells #[.int .i64 x7, .int .i64 y7, .int .i64 x8, .int .i64 y8, .int .i64 x, .int .i64 y, .int .i64 x2, .int .i64 y2] 25)
        have hk := hK.out _ _ ⟨t36, t37, t38, t39, _, t41, t42, t43, t44, _, _, t47, t48, t49, rfl, HH2, (fun hd => (keepV h0 (by decide) hd).apart hap), (keepV h1 (by decide)), (keepV h2 (by decide)), (fun hd => (keepV h3 (by decide) hd).apart hap), (keepV h4 (by decide)), (keepV h5 (by decide)), (keepV h6 (by decide)), (keepV h7 (by decide)), (keepV h8 (by decide)), (keepV h9 (by decide)), (fun _ => ⟨some ⟨wx.heap.size, 0, none⟩, rfl, IsB.block (rowC_two wx ⟨x7, y7, x8, y8⟩ ⟨x, y, x2, y2⟩ 25) (Nat.ne_of_gt hlt) rfl (by omega) (by omega)⟩), (fun hd => (keepV h11 (by decide) hd).apart hap), (keepV h12 (by decide)), (keepV h13 (by decide))⟩
        simp only [putL, Act.put, List.getElem_toArray, List.getElem_cons_zero, List.getElem_cons_succ, List.setIfInBounds_toArray, List.set_cons_zero, List.set_cons_succ] at hk
        exact hk
      case s11 =>
        intro listed ts wx hall hI K hK
        obtain ⟨t36, t37, t38, t39, t40, t41, t42, t43, t44, t45, t46, t47, t48, t49, hts, HH, h0, h1, h2, h3, h4, h5, h6, h7, h8, h9, h10, h11, h12, h13⟩ := hI
        rw [if_pos (by rfl)]
        subst hts
        simp only [putL, Act.put, List.getElem_toArray, List.getElem_cons_zero, List.getElem_cons_succ, List.setIfInBounds_toArray, List.set_cons_zero, List.set_cons_succ]
        have d0 : listed.getD 0 false = true := hall ⟨0, Ground.data⟩ (by simp) (by rfl)
        obtain ⟨rfl, hI0⟩ := h0 d0
        have d3 : listed.getD 3 false = true := hall ⟨3, Ground.data⟩ (by simp) (by rfl)
        obtain ⟨A3, rfl, hI3⟩ := h3 d3
        have d10 : listed.getD 10 false = true := hall ⟨10, Ground.data⟩ (by simp) (by rfl)
        obtain ⟨A10, rfl, hI10⟩ := h10 d10
        have hlt := HH.out.lt
        go_simp
        have HH2 := Lib.hid (HH.out.alloc (.cells #[.slice A9 n9 c9, .slice none 0 0, .slice A3 2 2, .slice A10 2 2] 26))
        have hap := (Apart.refl W0.heap.size wx).alloc (.cells #[.slice A9 n9 c9, .slice none 0 0, .slice A3 2 2, .slice A10 2 2] 26)
        have hk := hK.out _ _ ⟨_, t37, t38, _, t40, t41, t42, t43, t44, t45, _, _, t48, t49, rfl, HH2, (fun hd => (keepV h0 (by decide) hd).apart hap), (keepV h1 (by decide)), (keepV h2 (by decide)), (fun hd => (keepV h3 (by decide) hd).apart hap), (keepV h4 (by decide)), (keepV h5 (by decide)), (keepV h6 (by decide)), (keepV h7 (by decide)), (keepV h8 (by decide)), (keepV h9 (by decide)), (fun hd => (keepV h10 (by decide) hd).apart hap), (fun _ => ⟨wx.heap.size, rfl, Nat.ne_of_gt hlt, sb4_new hI0 (.inl rfl) hI3 hI10 _⟩), (keepV h12 (by decide)), (keepV h13 (by decide))⟩
        simp only [putL, Act.put, List.getElem_toArray, List.getElem_cons_zero, List.getElem_cons_succ, List.setIfInBounds_toArray, List.set_cons_zero, List.set_cons_succ] at hk
        exact hk
      case s12 =>
        intro listed ts wx hall hI K hK
        obtain ⟨t36, t37, t38, t39, t40, t41, t42, t43, t44, t45, t46, t47, t48, t49, hts, HH, h0, h1, h2, h3, h4, h5, h6, h7, h8, h9, h10, h11, h12, h13⟩ := hI
        rw [if_pos (by rfl)]
        subst hts
        simp only [putL, Act.put, List.getElem_toArray, List.getElem_cons_zero, List.getElem_cons_succ, List.setIfInBounds_toArray, List.set_cons_zero, List.set_cons_succ]
        have d11 : listed.getD 11 false = true := hall ⟨11, Ground.data⟩ (by simp) (by rfl)
        obtain ⟨T2, rfl, hT2, hT3⟩ := h11 d11
        go_simp
        have hk := hK.out _ _ ⟨t36, t37, t38, t39, t40, t41, t42, t43, t44, t45, t46, _, _, t49, rfl, HH, (keepV h0 (by decide)), (keepV h1 (by decide)), (keepV h2 (by decide)), (keepV h3 (by decide)), (keepV h4 (by decide)), (keepV h5 (by decide)), (keepV h6 (by decide)), (keepV h7 (by decide)), (keepV h8 (by decide)), (keepV h9 (by decide)), (keepV h10 (by decide)), (keepV h11 (by decide)), (fun _ => rfl), (keepV h13 (by decide))⟩
        simp only [putL, Act.put, List.getElem_toArray, List.getElem_cons_zero, List.getElem_cons_succ, List.setIfInBounds_toArray, List.set_cons_zero, List.set_cons_succ] at hk
        exact hk
      case s13 =>
        intro listed ts wx hall hI K hK
        obtain ⟨t36, t37, t38, t39, t40, t41, t42, t43, t44, t45, t46, t47, t48, t49, hts, HH, h0, h1, h2, h3, h4, h5, h6, h7, h8, h9, h10, h11, h12, h13⟩ := hI
        rw [if_pos (by rfl)]
        subst hts
        simp only [putL, Act.put, List.getElem_toArray, List.getElem_cons_zero, List.getElem_cons_succ, List.setIfInBounds_toArray, List.set_cons_zero, List.set_cons_succ]
        go_simp
        have hk := hK.out _ _ ⟨t36, t37, t38, t39, t40, t41, t42, t43, t44, t45, t46, t47, t48, _, rfl, HH, (keepV h0 (by decide)), (keepV h1 (by decide)), (keepV h2 (by decide)), (keepV h3 (by decide)), (keepV h4 (by decide)), (keepV h5 (by decide)), (keepV h6 (by decide)), (keepV h7 (by decide)), (keepV h8 (by decide)), (keepV h9 (by decide)), (keepV h10 (by decide)), (keepV h11 (by decide)), (keepV h12 (by decide)), (fun _ => rfl)⟩
        simp only [putL, Act.put, List.getElem_toArray, List.getElem_cons_zero, List.getElem_cons_succ, List.setIfInBounds_toArray, List.set_cons_zero, List.set_cons_succ] at hk
        exact hk
    case hdone =>
      intro listed ts wx hA hI
      obtain ⟨t36, t37, t38, t39, t40, t41, t42, t43, t44, t45, t46, t47, t48, t49, rfl, HH, h0, h1, h2, h3, h4, h5, h6, h7, h8, h9, h10, h11, h12, h13⟩ := hI
      obtain ⟨T2, rfl, hT2, hT3⟩ := h11 (hA 11 (by decide))
      obtain rfl := h12 (hA 12 (by decide))
      obtain rfl := h13 (hA 13 (by decide))
      simp only [putL, Act.put, List.getElem_toArray, List.getElem_cons_zero, List.getElem_cons_succ, List.setIfInBounds_toArray, List.set_cons_zero, List.set_cons_succ]
      try go_wp2_with fail
      go_meet
      exact ⟨T2, rfl, rfl, rfl, hT2, hT3, HH⟩
  case rest =>
  obtain ⟨T2, rfl, rfl, rfl, hT2, HT7, HD7⟩ := hcut
  obtain ⟨w7, rfl⟩ : ∃ u : World, u = wc := ⟨_, rfl⟩
  clear HDZ L6
  go_wp2_with fail
  go_loopw [49] (fun s wx => ∃ q : Nat, s = .int .i64 q ∧ q ≤ 4 ∧ Hid (Held w6 W0.heap.size ra rn rc wx) ∧ Hid (Sb4 W0.heap.size wx T2)) (fun s _ => 4 - (intOf s).toNat)
  case atStart => exact ⟨0, by go_num, by omega, HD7, HT7⟩
  case round =>
  obtain ⟨q, rfl, hq, HDq, HTq⟩ := hrel
  obtain ⟨wq, rfl⟩ : ∃ u : World, u = wr := ⟨_, rfl⟩
  clear HD7 HT7
  by_cases hq3 : q < 4
  · have hqi : (q : Int) < 4 := by omega
    obtain ⟨A, n1, c1, hc, hI⟩ := HTq.out q hq3
    obtain ⟨r, hp, hd⟩ := hI.chain
    have HP := Lib.hid hp
    have HDC := Lib.hid hd
    have HB8 := Lib.hid (Below.refl wq.heap.size wq)
    clear hp hd hI
    go_wp2_with fail
    clear hc
    refine (HP.out _ HB8.out).mono ?_
    rintro e y1 ⟨rfl, hb⟩
    obtain ⟨v1, hw⟩ : ∃ w', y1.alloc (.cells #[.int .i64 r.rn, .int .i64 r.rd, .int .i64 r.ln, .int .i64 r.ld] 25) = w' := ⟨_, rfl⟩
    have hz : Below wq.heap.size wq v1 := by rw [← hw]; exact hb.trans ((below_box _).mono hb.size)
    have HB8 := Lib.hid (HB8.out.trans (hz.mono HB8.out.size))
    have XV1 := Lib.hid (show Bk4 v1 y1.heap.size r.rn r.rd r.ln r.ld by rw [← hw]; exact Bk4.new _ _ _ _ _ _)
    have HW := Lib.hid hw
    clear hw hz hb
    go_upto_region 9 with fail
    try rw [HW.out]
    obtain ⟨F1, hE⟩ : ∃ B, y1.heap.size = B := ⟨_, rfl⟩
    rw [hE] at XV1
    try rw [hE]
    clear HW hE
    go_wp2_with fail
    refine (HDC.out _ HB8.out).mono ?_
    rintro e y2 ⟨rfl, hb⟩
    obtain ⟨v2, hw⟩ : ∃ w', y2.alloc (.cells #[.int .i64 r.rn, .int .i64 r.rd, .int .i64 r.ln, .int .i64 r.ld] 25) = w' := ⟨_, rfl⟩
    have hz : Below v1.heap.size v1 v2 := by rw [← hw]; exact hb.trans ((below_box _).mono hb.size)
    have HB8 := Lib.hid (HB8.out.trans (hz.mono HB8.out.size))
    have XV2 := Lib.hid (show Bk4 v2 y2.heap.size r.rn r.rd r.ln r.ld by rw [← hw]; exact Bk4.new _ _ _ _ _ _)
    have XV1 := Lib.hid (XV1.out.below hz)
    have HW := Lib.hid hw
    clear hw hz hb
    go_upto_region 10 with fail
    try rw [HW.out]
    obtain ⟨F2, hE⟩ : ∃ B, y2.heap.size = B := ⟨_, rfl⟩
    rw [hE] at XV2
    try rw [hE]
    clear HW hE
    obtain ⟨d0, d1, d2, d3⟩ := XV1.out
    obtain ⟨e0, e1, e2, e3⟩ := XV2.out
    go_wp2_with fail
    clear d0 d1 d2 d3 e0 e1 e2 e3
    go_roundw
    case rel => exact ⟨q + 1, by go_num, by omega, HDq.out.below HB8.out, HTq.out.under HB8.out⟩
    case measure => simp [intOf]; omega
  have hqi : ¬ (q : Int) < 4 := by omega
  clear HTq
  go_upto_region 13 with fail
  have HK := Lib.hid (fun u (h : Held w6 W0.heap.size ra rn rc u) => sb3_mk X6.out hneP XS6.out hneS XC6.out hCb h)
  have HK0 := Lib.hid (HK.out _ HDq.out.drew)
  go_cut [78, 79, 80] (fun s78 s79 s80 wx => ∃ (T : Nat) (bs : List Bkt), s78 = .slice (some ⟨T, 0, none⟩) 2 2 ∧ s79 = .int .i64 2 ∧ s80 = .int .i64 0 ∧ ¬ T = W0.heap.size ∧ bs.length = 2 ∧ Hid (RowB wx T 0 bs) ∧ Hid (Held w6 W0.heap.size ra rn rc wx))
  case first =>
    go_region_held3 (fun u => u.cell? ⟨W.heap.size, 0, none⟩ = some (.int .i64 pn) ∧ u.cell? ⟨W.heap.size, 1, none⟩ = some (.int .i64 pd) ∧ u.cell? ⟨W.heap.size, 2, none⟩ = some (.int .i64 ln) ∧ u.cell? ⟨W.heap.size, 3, none⟩ = some (.int .i64 ld) ∧ u.cell? ⟨(W.heap.size + 1), 0, none⟩ = some (.int .i64 bn) ∧ u.cell? ⟨(W.heap.size + 1), 1, none⟩ = some (.int .i64 bd) ∧ u.cell? ⟨(W.heap.size + 1), 2, none⟩ = some (.int .i64 an) ∧ u.cell? ⟨(W.heap.size + 1), 3, none⟩ = some (.int .i64 ad) ∧ u.cell? ⟨C, 0, none⟩ = some (.int .i64 x7) ∧ u.cell? ⟨C, 1, none⟩ = some (.int .i64 y7) ∧ u.cell? ⟨C, 2, none⟩ = some (.int .i64 x8) ∧ u.cell? ⟨C, 3, none⟩ = some (.int .i64 y8) ∧ Hid (Held w6 W0.heap.size ra rn rc u))
      (first | with_reducible exact HK0.out | with_reducible exact HK.out _ ((sb3_of (by assumption)).call hs10 he10) | with_reducible exact HK.out _ ((sb3_of (by assumption)).call hs9 he9) | with_reducible exact HK.out _ ((sb3_of (by assumption)).alloc _) | with_reducible exact HK.out _ ((sb3_of (by assumption)).alloc _).drew | with_reducible exact HK.out _ (sb3_of (by assumption)).drew)
      (first | (go_at_call 17; ((have HQ10 := hs9; (with_reducible refine (frac_any 5 3 (by omega) (by omega) (by omega) (by omega) W0.heap.size ra rn rc _ ((sb3_of (by assumption)).at HS6.out)).mono ?_); rintro e w10' ⟨x10, y10, hp10, rfl, hs10, he10⟩; have HK10 := Lib.hid ((sb3_of (by assumption)).call hs10 he10)))) | (go_at_call 20; ((with_reducible refine (lratio12_any W0.heap.size ra rn rc _ ((sb3_of (by assumption)).at HS6.out)).mono ?_); rintro e w9' ⟨x9, y9, hp9, rfl, hs9, he9⟩; have HK9 := Lib.hid ((sb3_of (by assumption)).call hs9 he9))))
    go_wp2_with fail
    go_meet
    have hH := HK10.out
    exact ⟨w10'.heap.size, [⟨bn, bd, an, ad⟩, ⟨x9, y9, x10, y10⟩], rfl, rfl, rfl, by have := hH.lt; omega, rfl, svrow_two w10' ⟨bn, bd, an, ad⟩ ⟨x9, y9, x10, y10⟩ _, hH.alloc _⟩
  case rest =>
  obtain ⟨T, bs, rfl, rfl, rfl, hTb, hbl, HT8, HD8⟩ := hcut
  obtain ⟨w8, rfl⟩ : ∃ u : World, u = wc := ⟨_, rfl⟩
  clear HK HK0 HDq
  go_wp2_with fail
  go_loopw [80] (fun s wx => ∃ q : Nat, s = .int .i64 q ∧ q ≤ 2 ∧ Hid (Held w6 W0.heap.size ra rn rc wx) ∧ Hid (RowB wx T 0 bs)) (fun s _ => 2 - (intOf s).toNat)
  case atStart => exact ⟨0, by go_num, by omega, HD8, HT8⟩
  case round =>
  obtain ⟨q, rfl, hq, HDq, HTq⟩ := hrel
  obtain ⟨wq, rfl⟩ : ∃ u : World, u = wr := ⟨_, rfl⟩
  clear HD8 HT8
  by_cases hq3 : q < 2
  · have hqi : (q : Int) < 2 := by omega
    obtain ⟨c, hc⟩ : ∃ c, bs[q]? = some c := ⟨_, List.getElem?_eq_getElem (by omega)⟩
    obtain ⟨l0, l1, l2, l3⟩ := HTq.out.at0 hc
    obtain ⟨w9, hw⟩ : ∃ w', wq.alloc (.cells #[.int .i64 c.bn, .int .i64 c.bd, .int .i64 c.rn, .int .i64 c.rd] 46) = w' := ⟨_, rfl⟩
    have hz : Below wq.heap.size wq w9 := by rw [← hw]; exact below_box _
    have XE := Lib.hid (show Bk4 w9 wq.heap.size c.bn c.bd c.rn c.rd by rw [← hw]; exact Bk4.new _ _ _ _ _ _)
    have HD9 := Lib.hid (HDq.out.below hz)
    have HT9 := Lib.hid (HTq.out.under hz)
    have HS9 := Lib.hid (HD9.out.at HS6.out)
    have X9 := Lib.hid (X6.out.apart HD9.out.ap hneP)
    have XC9 := Lib.hid (XC6.out.apart HD9.out.ap hCb)
    have hEb : wq.heap.size ≠ W0.heap.size := Nat.ne_of_gt HDq.out.lt
    have HW := Lib.hid hw
    clear hw hz hc HDq HTq
    go_upto_region 16 with fail
    try rw [HW.out]
    obtain ⟨F, hF⟩ : ∃ B, wq.heap.size = B := ⟨_, rfl⟩
    rw [hF] at XE hEb
    try rw [hF]
    clear HW hF l0 l1 l2 l3
    have HK := Lib.hid (fun u (h : Held w9 W0.heap.size ra rn rc u) => sb3_mk X9.out hneP XC9.out hCb XE.out hEb h)
    have HK0 := Lib.hid (HK.out _ (Held.start HS9.out).drew)
    go_cut [91, 92, 93] (fun s91 s92 s93 wx => ∃ (U : Nat) (cs : List Bkt), s91 = .slice (some ⟨U, 0, none⟩) 3 3 ∧ s92 = .int .i64 3 ∧ s93 = .int .i64 0 ∧ cs.length = 3 ∧ Hid (RowB wx U 0 cs) ∧ Hid (Held w9 W0.heap.size ra rn rc wx))
    case first =>
      go_region_held3 (fun u => u.cell? ⟨W.heap.size, 0, none⟩ = some (.int .i64 pn) ∧ u.cell? ⟨W.heap.size, 1, none⟩ = some (.int .i64 pd) ∧ u.cell? ⟨W.heap.size, 2, none⟩ = some (.int .i64 ln) ∧ u.cell? ⟨W.heap.size, 3, none⟩ = some (.int .i64 ld) ∧ u.cell? ⟨C, 0, none⟩ = some (.int .i64 x7) ∧ u.cell? ⟨C, 1, none⟩ = some (.int .i64 y7) ∧ u.cell? ⟨C, 2, none⟩ = some (.int .i64 x8) ∧ u.cell? ⟨C, 3, none⟩ = some (.int .i64 y8) ∧ u.cell? ⟨F, 0, none⟩ = some (.int .i64 c.bn) ∧ u.cell? ⟨F, 1, none⟩ = some (.int .i64 c.bd) ∧ u.cell? ⟨F, 2, none⟩ = some (.int .i64 c.rn) ∧ u.cell? ⟨F, 3, none⟩ = some (.int .i64 c.rd) ∧ Hid (Held w9 W0.heap.size ra rn rc u))
        (first | with_reducible exact HK0.out | with_reducible exact HK.out _ ((sb3_of (by assumption)).call hs10 he10) | with_reducible exact HK.out _ ((sb3_of (by assumption)).call hs9 he9) | with_reducible exact HK.out _ ((sb3_of (by assumption)).alloc _) | with_reducible exact HK.out _ ((sb3_of (by assumption)).alloc _).drew | with_reducible exact HK.out _ (sb3_of (by assumption)).drew)
        (first | (go_at_call 17; ((have HQ10 := hs9; (with_reducible refine (frac_any 9 3 (by omega) (by omega) (by omega) (by omega) W0.heap.size ra rn rc _ ((sb3_of (by assumption)).at HS9.out)).mono ?_); rintro e w10' ⟨x10, y10, hp10, rfl, hs10, he10⟩; have HK10 := Lib.hid ((sb3_of (by assumption)).call hs10 he10)))) | (go_at_call 17; ((with_reducible refine (frac_any 9 3 (by omega) (by omega) (by omega) (by omega) W0.heap.size ra rn rc _ ((sb3_of (by assumption)).at HS9.out)).mono ?_); rintro e w9' ⟨x9, y9, hp9, rfl, hs9, he9⟩; have HK9 := Lib.hid ((sb3_of (by assumption)).call hs9 he9))))
      go_wp2_with fail
      go_meet
      have hH := HK10.out
      exact ⟨w10'.heap.size, [⟨pn, pd, ln, ld⟩, ⟨x7, y7, x8, y8⟩, ⟨x9, y9, x10, y10⟩], rfl, rfl, rfl, rfl, svrow_three w10' ⟨pn, pd, ln, ld⟩ ⟨x7, y7, x8, y8⟩ ⟨x9, y9, x10, y10⟩ _, hH.alloc _⟩
    case rest =>
    obtain ⟨U, cs, rfl, rfl, rfl, hcl, HU, HD10⟩ := hcut
    obtain ⟨w10, rfl⟩ : ∃ u : World, u = wc := ⟨_, rfl⟩
    clear HK HK0
    go_wp2_with fail
    go_loopw [93] (fun s wx => ∃ j : Nat, s = .int .i64 j ∧ j ≤ 3 ∧ Hid (Held w9 W0.heap.size ra rn rc wx) ∧ Hid (RowB wx U 0 cs)) (fun s _ => 3 - (intOf s).toNat)
    case atStart => exact ⟨0, by go_num, by omega, HD10, HU⟩
    case round =>
    obtain ⟨j, rfl, hj, HDj, HTj⟩ := hrel
    obtain ⟨wj, rfl⟩ : ∃ u : World, u = wr := ⟨_, rfl⟩
    clear HD10 HU
    by_cases hj3 : j < 3
    · have hji : (j : Int) < 3 := by omega
      obtain ⟨d, hd⟩ : ∃ d, cs[j]? = some d := ⟨_, List.getElem?_eq_getElem (by omega)⟩
      obtain ⟨l0, l1, l2, l3⟩ := HTj.out.at0 hd
      obtain ⟨w11, hw⟩ : ∃ w', wj.alloc (.cells #[.int .i64 d.bn, .int .i64 d.bd, .int .i64 d.rn, .int .i64 d.rd] 25) = w' := ⟨_, rfl⟩
      have hz : Below wj.heap.size wj w11 := by rw [← hw]; exact below_box _
      have XP := Lib.hid (show Bk4 w11 wj.heap.size d.bn d.bd d.rn d.rd by rw [← hw]; exact Bk4.new _ _ _ _ _ _)
      have XE2 := Lib.hid ((XE.out.apart HDj.out.ap hEb).below hz)
      have HB8 := Lib.hid hz
      have HW := Lib.hid hw
      clear hw hz hd
      go_upto_region 19 with fail
      try rw [HW.out]
      obtain ⟨G, hG⟩ : ∃ B, wj.heap.size = B := ⟨_, rfl⟩
      rw [hG] at XP
      try rw [hG]
      clear HW hG l0 l1 l2 l3
      obtain ⟨d0, d1, d2, d3⟩ := XE2.out
      obtain ⟨e0, e1, e2, e3⟩ := XP.out
      go_wp2_with fail
      clear d0 d1 d2 d3 e0 e1 e2 e3
      refine (wait_any c.bn c.bd c.rn c.rd d.bn d.bd d.rn d.rd _).mono ?_
      rintro e y1 ⟨rfl, hb⟩
      obtain ⟨v1, hw⟩ : ∃ w', y1.alloc (.cells #[.int .i64 (waitA c.bn c.bd c.rn c.rd d.bn d.bd d.rn d.rd).1, .int .i64 (waitA c.bn c.bd c.rn c.rd d.bn d.bd d.rn d.rd).2.1] 23) = w' := ⟨_, rfl⟩
      have hz : Below w11.heap.size w11 v1 := by rw [← hw]; exact hb.trans ((below_box _).mono hb.size)
      have HB8 := Lib.hid (HB8.out.trans (hz.mono HB8.out.size))
      have XV1 := Lib.hid (show Box v1 y1.heap.size (waitA c.bn c.bd c.rn c.rd d.bn d.bd d.rn d.rd).1 (waitA c.bn c.bd c.rn c.rd d.bn d.bd d.rn d.rd).2.1 by rw [← hw]; exact Box.new _ _ _ _)
      have XE2 := Lib.hid (XE2.out.below hz)
      have XP := Lib.hid (XP.out.below hz)
      have HW := Lib.hid hw
      clear hw hz hb
      go_upto_region 20 with fail
      try rw [HW.out]
      obtain ⟨F1, hE⟩ : ∃ B, y1.heap.size = B := ⟨_, rfl⟩
      rw [hE] at XV1
      try rw [hE]
      clear HW hE
      obtain ⟨d0, d1, d2, d3⟩ := XE2.out
      obtain ⟨e0, e1, e2, e3⟩ := XP.out
      go_wp2_with fail
      clear d0 d1 d2 d3 e0 e1 e2 e3
      refine (rwait_any c.bn c.bd c.rn c.rd d.bn d.bd d.rn d.rd _).mono ?_
      rintro e y2 ⟨rfl, hb⟩
      obtain ⟨v2, hw⟩ : ∃ w', y2.alloc (.cells #[.int .i64 (waitA c.bn c.bd c.rn c.rd d.bn d.bd d.rn d.rd).1, .int .i64 (waitA c.bn c.bd c.rn c.rd d.bn d.bd d.rn d.rd).2.1] 23) = w' := ⟨_, rfl⟩
      have hz : Below v1.heap.size v1 v2 := by rw [← hw]; exact hb.trans ((below_box _).mono hb.size)
      have HB8 := Lib.hid (HB8.out.trans (hz.mono HB8.out.size))
      have XV2 := Lib.hid (show Box v2 y2.heap.size (waitA c.bn c.bd c.rn c.rd d.bn d.bd d.rn d.rd).1 (waitA c.bn c.bd c.rn c.rd d.bn d.bd d.rn d.rd).2.1 by rw [← hw]; exact Box.new _ _ _ _)
      have XV1 := Lib.hid (XV1.out.below hz)
      have HW := Lib.hid hw
      clear hw hz hb
      go_upto_region 21 with fail
      try rw [HW.out]
      obtain ⟨F2, hE⟩ : ∃ B, y2.heap.size = B := ⟨_, rfl⟩
      rw [hE] at XV2
      try rw [hE]
      clear HW hE
      obtain ⟨d0, d1, d2, d3⟩ := XV1.out
      obtain ⟨e0, e1, e2, e3⟩ := XV2.out
      go_wp2_with fail
      clear d0 d1 d2 d3 e0 e1 e2 e3
      go_roundw
      case rel => exact ⟨j + 1, by go_num, by omega, HDj.out.below HB8.out, HTj.out.under HB8.out⟩
      case measure => simp [intOf]; omega
    have hji : ¬ (j : Int) < 3 := by omega
    clear HTj
    have HDE := Lib.hid (HD9.out.call (HDj.out.at HS9.out) HDj.out.ap)
    have HTE := Lib.hid (show RowB wj T 0 bs from (RowB.toC HT9.out).apart HDj.out.ap hTb)
    clear HDj HD9 HT9 X9 XC9 XE
    go_wp2_with fail
    go_roundw
    case rel => exact ⟨q + 1, by go_num, by omega, HDE, HTE⟩
    case measure => simp [intOf]; omega
  have hqi : ¬ (q : Int) < 2 := by omega
  clear HTq
  have HBE := Lib.hid (show Below W.heap.size W wq from HBW6.out.trans (HDq.out.ap.below (by omega) HBW6.out.size))
  go_wp2_with fail
  refine (awake12 _).mono ?_
  rintro e z2 ⟨rfl, hb⟩
  have HBZ := Lib.hid (HBE.out.trans (hb.mono HBE.out.size))
  clear hb
  go_wp2_with fail
  go_ret
  exact ⟨rfl, HBZ.out⟩

end Go.Proofs.Ytjipmkgnndldpaa
