/- The walk of BucketKeeps. By the verifier's side. -/
import Derived.Test.YtombgfpheiopgaaKBkH
namespace Go.Proofs.Ytombgfpheiopgaa
open Go.RowKit
set_option linter.unusedSimpArgs false
set_option linter.unusedVariables false

theorem great_small {xs : List Int} (hs : SizesX xs) (hl : xs.length ≤ 12) {rn rd : Int} (h0 : 0 ≤ rn) (h2 : 1 ≤ rd) (h3 : rd ≤ 4) {m : Int} (h : GreatX (PairX xs.length) (spanX xs rn rd) m) : 0 ≤ m ∧ m ≤ 100000 := by
  refine ⟨h.1, ?_⟩
  rcases h.2.2 with he | ⟨i, j, ⟨hij, hj⟩, he⟩
  · omega
  · have c1 := cum_bd hs (j + 1) (by omega)
    have c2 := cum_bd hs i (by omega)
    unfold spanX at he
    have hup := cum_up hs i (j + 1 - i) (by omega)
    rw [show i + (j + 1 - i) = j + 1 by omega] at hup
    obtain ⟨y, hy⟩ : ∃ y, cumX xs (j + 1) - cumX xs i = y := ⟨_, rfl⟩
    rw [hy] at he
    have e1 : y * rd ≤ 18000 * 4 := Int.le_trans (Int.mul_le_mul_of_nonneg_left h3 (by omega)) (Int.mul_le_mul_of_nonneg_right (by omega) (by omega))
    have e2 : 0 ≤ rn * ((j : Int) - (i : Int)) := Int.mul_nonneg h0 (by omega)
    omega
theorem cmp_iff {m bn bd rd x y : Int} (hy : 1 ≤ y) (hrd : 1 ≤ rd) (hx : x * rd = m * y) : x * bd ≤ bn * y ↔ m * bd ≤ bn * rd := by
  have e1 : x * bd * rd = m * bd * y := by
    calc x * bd * rd = (x * rd) * bd := by grind
      _ = (m * y) * bd := by rw [hx]
      _ = m * bd * y := by grind
  have e2 : bn * y * rd = bn * rd * y := by grind
  constructor
  · intro h
    have h1 : x * bd * rd ≤ bn * y * rd := Int.mul_le_mul_of_nonneg_right h (by omega)
    rw [e1, e2] at h1
    exact Int.le_of_mul_le_mul_right h1 (by omega)
  · intro h
    have h1 : m * bd * y ≤ bn * rd * y := Int.mul_le_mul_of_nonneg_right h (by omega)
    rw [← e1, ← e2] at h1
    exact Int.le_of_mul_le_mul_right h1 (by omega)
theorem cmpF_le {x y bn bd : Int} (h1 : okF x y = true) (h2 : okF bn bd = true) : compareF x y bn bd ≤ 0 ↔ x * bd ≤ bn * y := by
  obtain ⟨s1, s2, s3⟩ := compareF_sign x y bn bd h1 h2
  rcases Int.lt_trichotomy (x * bd) (bn * y) with h | h | h
  · rw [s1 h]; omega
  · rw [s2 h]; omega
  · rw [s3 h]; omega
/-- What is decided by comparing the excess with the burst. -/
theorem keeps_math {xs : List Int} (hs : SizesX xs) {bn bd qn qd : Nat} (h1 : okB bn bd = true) (h2 : okB qn qd = true) {m x y : Int} (hm : GreatX (PairX xs.length) (spanX xs qn qd) m) (hxy : okF x y = true) (hx : x * (qd : Int) = m * y) :
    compareF x y bn bd ≤ 0 ↔ ∀ i j, i ≤ j → j < xs.length → cumX xs (j + 1) - cumX xs i ≤ tokF bn bd qn qd (j - i + 1) := by
  have k1 := (okB_iff _ _).1 h1
  have k2 := (okB_iff _ _).1 h2
  rw [cmpF_le hxy k1.1, keeps_iff hs (bn := bn) (bd := bd) (by have := (okF_iff _ _).1 k1.1; omega) (by have := (okF_iff _ _).1 k2.1; omega) hm]
  exact cmp_iff (by have := (okF_iff _ _).1 hxy; omega) (by have := (okF_iff _ _).1 k2.1; omega) hx

set_option maxRecDepth 100000 in
set_option maxHeartbeats 6400000 in
theorem bucketKeeps_walk (W : World) (a : Option Addr) (n cap : Nat) (hrow : RowAt W a n cap) :
    Calls Try.prog 11 #[.slice a n cap] W fun e w' => e = .returned (.bool true) ∧ Below W.heap.size W w' := by
  have HR := Lib.hid hrow
  clear hrow
  have hmk := make_rowP
  go_enter Try.func11, Try.ntmps11
  go_wp2_with fail
  refine (new_any a n cap _ HR.out).mono ?_
  rintro e u1 ⟨rfl, hb1, hz1, ra, rn, rc, hs1⟩
  have HB1 := Lib.hid hb1
  have HS1 := Lib.hid hs1
  have Z1 := Lib.hid (show W.heap.size < u1.heap.size by omega)
  clear hb1 hz1 hs1
  go_wp2_with fail
  refine (frac_any 30 3 (by omega) (by omega) (by omega) (by omega) _ ra rn rc _ HS1.out).mono ?_
  rintro e u2 ⟨x1, y1, hp, rfl, hs, ha⟩
  obtain ⟨bn, bd, rfl, rfl, b0, b1, b2, b3⟩ := frac_nat hp (by omega) (by omega)
  have OB := Lib.hid (And.intro b0 (show bn ≤ 90 by omega))
  have D2 := Lib.hid (show Held u1 W.heap.size ra rn rc u2 from (Held.start HS1.out).call hs ha)
  clear hs ha hp b0
  go_wp2_with fail
  refine (frac_any 6 4 (by omega) (by omega) (by omega) (by omega) _ ra rn rc _ (D2.out.at HS1.out)).mono ?_
  rintro e u3 ⟨x2, y2, hp, rfl, hs, ha⟩
  obtain ⟨qn, qd, rfl, rfl, q0, q1, q2, q3⟩ := frac_nat hp (by omega) (by omega)
  have OQ := Lib.hid (show okB qn qd = true ∧ qn ≤ 24 ∧ 1 ≤ qd ∧ qd ≤ 4 from ⟨q0, by omega, q2, by omega⟩)
  have D3 := Lib.hid (D2.out.call hs ha)
  clear hs ha hp q0 D2
  obtain ⟨w0, hw⟩ : ∃ w', u3.alloc (.cells #[.int .i64 bn, .int .i64 bd, .int .i64 qn, .int .i64 qd] 74) = w' := ⟨_, rfl⟩
  have DD := Lib.hid (show Held u1 W.heap.size ra rn rc w0 by rw [← hw]; exact D3.out.alloc _)
  have XB := Lib.hid (show Bk4 w0 u3.heap.size bn bd qn qd by rw [← hw]; exact Bk4.new _ _ _ _ _ _)
  have HBE := Lib.hid (show u1.heap.size ≤ u3.heap.size from D3.out.ap.size)
  have HW := Lib.hid hw
  clear hw D3
  go_upto_region 3 with fail
  try rw [HW.out]
  obtain ⟨B, hB⟩ : ∃ B, u3.heap.size = B := ⟨_, rfl⟩
  rw [hB] at XB HBE
  try rw [hB]
  clear HW hB
  go_wp2_with fail
  refine (n_any 12 (by omega) (by omega) _ ra rn rc _ (DD.out.at HS1.out)).mono ?_
  rintro e u4 ⟨r, ⟨r0, r1⟩, rfl, hs, he⟩
  obtain ⟨N, rfl⟩ := Int.eq_ofNat_of_zero_le r0
  have hN : N ≤ 11 := by omega
  have hN1000 : N ≤ 1000 := by omega
  have hmN := hmk N hN1000
  have hne : ¬ B = W.heap.size := by have := HBE.out; have := Z1.out; omega
  have D4 := Lib.hid (DD.out.call hs he.apart)
  have XB := Lib.hid (XB.out.apart he.apart hne)
  have hlB := XB.out.lt
  clear hs he DD
  obtain ⟨w1, hw⟩ : ∃ w', u4.alloc (.cells (madeCells #[.int .i64 0] N) 3) = w' := ⟨_, rfl⟩
  have L0 := Lib.hid (show Lst (fun z => 0 ≤ z ∧ z ≤ 1500) u4.heap.size N w1 by rw [← hw]; exact Lst.make u4 N (by omega))
  have DD := Lib.hid (show Held u1 W.heap.size ra rn rc w1 by rw [← hw]; exact D4.out.alloc _)
  have XB := Lib.hid (show Bk4 w1 B bn bd qn qd by rw [← hw]; exact XB.out.alloc _)
  have HGE := Lib.hid (show u1.heap.size ≤ u4.heap.size ∧ B < u4.heap.size from ⟨D4.out.ap.size, hlB⟩)
  clear hlB
  have HW := Lib.hid hw
  clear hw D4
  go_upto_region 4 with fail
  try rw [HW.out]
  obtain ⟨G, hG⟩ : ∃ B, u4.heap.size = B := ⟨_, rfl⟩
  rw [hG] at L0 HGE
  try rw [hG]
  clear HW hG hmN
  have hng : ¬ G = W.heap.size := by have := HGE.out; have := Z1.out; omega
  go_wp2_with fail
  go_loopw [23] (fun s23 wx => ∃ k : Nat, s23 = .int .i64 k ∧ k ≤ N ∧ Hid (Held u1 W.heap.size ra rn rc wx) ∧ Hid (Lst (fun z => 0 ≤ z ∧ z ≤ 1500) G N wx) ∧ Hid (Bk4 wx B bn bd qn qd)) (fun s23 _ => N - (intOf s23).toNat)
  case atStart => exact ⟨0, by go_num, by omega, DD, L0, XB⟩
  case round =>
    obtain ⟨k, rfl, hk, HD, HL, HX⟩ := hrel
    obtain ⟨wk, rfl⟩ : ∃ u : World, u = wr := ⟨_, rfl⟩
    clear DD L0 XB
    by_cases hlt : k < N
    · have hbl : W.heap.size < wk.heap.size := HD.out.lt
      go_wp2_with fail
      refine (pick_of (fun z => 0 ≤ z ∧ z ≤ 1500) (fun z hz => ⟨by omega, by omega⟩) wk.heap.size 6 6 (by omega) (by omega) W.heap.size (Nat.ne_of_gt hbl) ra rn rc _ ((HD.out.alloc _).at HS1.out)
        (list_newP _ wk [0, 0, 1, 4, 9, 20] 3 (by decide))).mono ?_
      rintro e v1 ⟨z, hz, rfl, hs, ha⟩
      have hz2 : Below wk.heap.size wk (wk.alloc (.cells #[.int .i64 0, .int .i64 0, .int .i64 1, .int .i64 4, .int .i64 9, .int .i64 20] 3)) := below_box _
      have HD1 := Lib.hid ((HD.out.alloc _).call hs ha)
      have HL1 := Lib.hid ((HL.out.under hz2).apart ha hng)
      have HX1 := Lib.hid ((HX.out.below hz2).apart ha hne)
      obtain ⟨z0, hc0, _⟩ := HL1.out.cell k hlt
      have hf0 := HL1.out.free k hlt
      have HZ := Lib.hid hz
      clear hs ha hz2 hz
      go_wp2_with fail
      go_roundw
      case rel => exact ⟨k + 1, by go_num, by omega, HD1.out.set Z1.out (p := ⟨G, k, none⟩) HGE.out.1 _, HL1.out.set hlt HZ.out, HX1.out.other (by have := HGE.out; omega) _ _⟩
      case measure => simp [intOf]; omega
    · obtain rfl : k = N := by omega
      obtain ⟨xs, hxl, hxp, hxr⟩ := HL.out.row (by omega) (fun z hz => ⟨by omega, by omega⟩)
      have HXL := Lib.hid hxr
      have HXS := Lib.hid (show SizesX xs ∧ xs.length ≤ 11 from ⟨fun i hi => hxp i (by omega), by omega⟩)
      have HB2 := Lib.hid (show Below W.heap.size W wk from HB1.out.trans (HD.out.ap.below (Nat.le_refl _) HB1.out.size))
      clear hxp hxr hxl HL HD
      obtain ⟨c0, c1, c2, c3⟩ := HX.out
      go_wp2_with fail
      clear c0 c1 c2 c3
      refine (token_ok OB.out.1 OQ.out.1 (by have := OB.out.2; omega) (by have := OQ.out.2; omega) (by have := OQ.out.2; omega) _).mono ?_
      rintro e v2 ⟨af, nf, capf, zf, pf, jf, rfl, hb, hr, hf, hx⟩
      obtain ⟨w3, hw⟩ : ∃ w', v2.alloc (.cells #[.slice af nf capf, .int .i64 pf, .int .i64 jf] 24) = w' := ⟨_, rfl⟩
      have hz : Below wk.heap.size wk w3 := by rw [← hw]; exact hb.trans ((below_box _).mono hb.size)
      have HX3 := Lib.hid (HX.out.below hz)
      have HL3 := Lib.hid (HXL.out.under hz)
      have XF3 := Lib.hid (show Bx w3 v2.heap.size af nf capf pf jf zf by rw [← hw]; exact Bx.new hr)
      have HB3 := Lib.hid (HB2.out.trans (hz.mono HB2.out.size))
      have HF := Lib.hid hf
      have HW := Lib.hid hw
      clear hb hr hf hx hw hz HX HXL HB2
      go_upto_region 10 with fail
      try rw [HW.out]
      obtain ⟨F, hF⟩ : ∃ B, v2.heap.size = B := ⟨_, rfl⟩
      rw [hF] at XF3
      try rw [hF]
      clear HW hF
      obtain ⟨m, _, hm, _⟩ := great_ex xs qn qd (by omega) xs.length
      have hmb := great_small HXS.out.1 (by have := HXS.out.2; omega) (by omega) (show (1 : Int) ≤ (qd : Int) by have := OQ.out; omega) (by have := OQ.out; omega) hm
      obtain ⟨x, y, hxy, hok, hxe, _, _, _, _⟩ := newF_small m qd (by have := OQ.out; omega) (by have := OQ.out; omega) (by omega)
      have HEX := Lib.hid (show ExcIs qn qd (okB bn bd && okB qn qd) xs (x, y, 0) newF from .inl ⟨by rw [OB.out.1, OQ.out.1]; rfl, by have := HXS.out.2; omega, HXS.out.1, m, hm, hxy.symm⟩)
      have HKM := Lib.hid (keeps_math HXS.out.1 OB.out.1 OQ.out.1 hm hok hxe)
      clear hm hmb hxy hok hxe
      obtain ⟨c0, c1, c2, c3⟩ := HX3.out
      go_wp2_with fail
      clear c0 c1 c2 c3
      refine (excess_any bn bd qn qd xs _ HEX.out _ _ _ _ HL3.out).mono ?_
      rintro e v4 ⟨rfl, hb⟩
      obtain ⟨w5, hw⟩ : ∃ w', v4.alloc (.cells #[.int .i64 x, .int .i64 y] 72) = w' := ⟨_, rfl⟩
      have hz : Below w3.heap.size w3 w5 := by rw [← hw]; exact hb.trans ((below_box _).mono hb.size)
      have HX5 := Lib.hid (HX3.out.below hz)
      have HL5 := Lib.hid (HL3.out.under hz)
      have XF5 := Lib.hid (XF3.out.under hz)
      have XX5 := Lib.hid (show Box w5 v4.heap.size x y by rw [← hw]; exact Box.new _ _ _ _)
      have HB5 := Lib.hid (HB3.out.trans (hz.mono HB3.out.size))
      have HW := Lib.hid hw
      clear hb hw hz HX3 HL3 XF3 HB3
      go_upto_region 11 with fail
      try rw [HW.out]
      obtain ⟨X, hX⟩ : ∃ B, v4.heap.size = B := ⟨_, rfl⟩
      rw [hX] at XX5
      try rw [hX]
      clear HW hX
      obtain ⟨c, hc⟩ : ∃ c, compareF x y bn bd = c := ⟨_, rfl⟩
      rw [hc] at HKM
      have HC := Lib.hid hc
      obtain ⟨bb, hbb⟩ : ∃ b, decide (c ≤ 0) = b := ⟨_, rfl⟩
      have HSU := Lib.hid (show bb = true ↔ ∀ i j, i ≤ j → j < xs.length → cumX xs (j + 1) - cumX xs i ≤ atC zf pf jf (j - i + 1) by
        rw [← hbb, decide_eq_true_eq, HKM.out]
        have he : ∀ t, atC zf pf jf t = tokF bn bd qn qd t := fun t => HF.out.at rfl
        constructor
        · intro h i j h1 h2; rw [he]; exact h i j h1 h2
        · intro h i j h1 h2; rw [← he]; exact h i j h1 h2)
      have VF := Lib.hid (And.intro (And.intro (show In64 (pf : Int) from by have := HF.out.good.p2; exact ⟨by omega, by omega⟩) (show In64 jf from by have := HF.out.good.i0; have := HF.out.good.i1; exact ⟨by omega, by omega⟩)) ((okC_iff zf pf jf).2 HF.out.good))
      clear hc
      have KS := Lib.hid (show ∀ u, Below w5.heap.size w5 u → ((u.cell? ⟨F, 0, none⟩ = some (.slice af nf capf) ∧ u.cell? ⟨F, 1, none⟩ = some (.int .i64 pf) ∧ u.cell? ⟨F, 2, none⟩ = some (.int .i64 jf)) ∧ (u.cell? ⟨X, 0, none⟩ = some (.int .i64 x) ∧ u.cell? ⟨X, 1, none⟩ = some (.int .i64 y)) ∧ (u.cell? ⟨B, 0, none⟩ = some (.int .i64 bn) ∧ u.cell? ⟨B, 1, none⟩ = some (.int .i64 bd))) from fun u hu => by
        have h1 := XF5.out.box.below hu
        have h2 := XX5.out.below hu
        have h3 := HX5.out.below hu
        exact ⟨⟨h1.c0, h1.c1, h1.c2⟩, ⟨h2.c0, h2.c1⟩, h3.c0, h3.c1⟩)
      have O0 := Lib.hid ((Below.refl w5.heap.size w5).drew)
      refine wp_region_keeps (fun u => ((u.cell? ⟨F, 0, none⟩ = some (.slice af nf capf) ∧ u.cell? ⟨F, 1, none⟩ = some (.int .i64 pf) ∧ u.cell? ⟨F, 2, none⟩ = some (.int .i64 jf)) ∧ (u.cell? ⟨X, 0, none⟩ = some (.int .i64 x) ∧ u.cell? ⟨X, 1, none⟩ = some (.int .i64 y)) ∧ (u.cell? ⟨B, 0, none⟩ = some (.int .i64 bn) ∧ u.cell? ⟨B, 1, none⟩ = some (.int .i64 bd)))) 24 1 (by kernel_rfl) (by kernel_rfl) (KS.out _ O0.out) (fun hHeld0 => ?_)
      refine wpAnyK_take (i := 0) (v := ?_) rfl (by kernel_rfl) (fun _ _ _ h => h) (Or.inl ⟨by rfl, ?_⟩) (by assumption) ?_
      rotate_left
      · (intro w hSw; (try dsimp only at hSw); go_simp; try with_reducible rfl)
      try simp only [Act.put, List.getElem_toArray, List.getElem_cons_zero, List.getElem_cons_succ, List.setIfInBounds_toArray, List.set_cons_zero, List.set_cons_succ]
      refine wpAnyK_take (i := 1) (v := ?_) rfl (by kernel_rfl) (fun _ _ _ h => h) (Or.inl ⟨by rfl, ?_⟩) (by assumption) ?_
      rotate_left
      · (intro w hSw; (try dsimp only at hSw); go_simp; try with_reducible rfl)
      try simp only [Act.put, List.getElem_toArray, List.getElem_cons_zero, List.getElem_cons_succ, List.setIfInBounds_toArray, List.set_cons_zero, List.set_cons_succ]
      refine wpAnyK_take (i := 2) (v := ?_) rfl (by kernel_rfl) (fun _ _ _ h => h) (Or.inl ⟨by rfl, ?_⟩) (by assumption) ?_
      rotate_left
      · (intro w hSw; (try dsimp only at hSw); go_simp; try with_reducible rfl)
      try simp only [Act.put, List.getElem_toArray, List.getElem_cons_zero, List.getElem_cons_succ, List.setIfInBounds_toArray, List.set_cons_zero, List.set_cons_succ]
      refine wpAnyK_take (i := 3) (v := ?_) rfl (by kernel_rfl) (fun _ _ _ h => h) (Or.inl ⟨by rfl, ?_⟩) (by assumption) ?_
      rotate_left
      · (intro w hSw; (try dsimp only at hSw); go_simp; try with_reducible rfl)
      try simp only [Act.put, List.getElem_toArray, List.getElem_cons_zero, List.getElem_cons_succ, List.setIfInBounds_toArray, List.set_cons_zero, List.set_cons_succ]
      refine wpAnyK_step (i := 4) rfl (by kernel_rfl) (fun K hK => ?_)
      go_simp
      with_reducible refine (rvalid_any af nf capf zf pf jf VF.out.1.1 VF.out.1.2 true VF.out.2 _ (XF5.out.row.under O0.out)).mono ?_
      rintro e x1 ⟨rfl, hb⟩
      have O1 := Lib.hid (O0.out.trans (hb.mono O0.out.size))
      clear hb
      refine hK.out _ _ (KS.out _ O1.out) (fun hHeld1 => ?_)
      clear hK K hHeld0
      try simp only [Act.put, List.getElem_toArray, List.getElem_cons_zero, List.getElem_cons_succ, List.setIfInBounds_toArray, List.set_cons_zero, List.set_cons_succ]
      refine wpAnyK_take (i := 5) (v := ?_) rfl (by kernel_rfl) (fun _ _ _ h => h) (Or.inl ⟨by rfl, ?_⟩) (by assumption) ?_
      rotate_left
      · (intro w hSw; (try dsimp only at hSw); go_simp; try with_reducible rfl)
      try simp only [Act.put, List.getElem_toArray, List.getElem_cons_zero, List.getElem_cons_succ, List.setIfInBounds_toArray, List.set_cons_zero, List.set_cons_succ]
      refine wpAnyK_take (i := 6) (v := ?_) rfl (by kernel_rfl) (fun _ _ _ h => h) (Or.inl ⟨by rfl, ?_⟩) (by assumption) ?_
      rotate_left
      · (intro w hSw; (try dsimp only at hSw); go_simp; try with_reducible rfl)
      try simp only [Act.put, List.getElem_toArray, List.getElem_cons_zero, List.getElem_cons_succ, List.setIfInBounds_toArray, List.set_cons_zero, List.set_cons_succ]
      refine wpAnyK_take (i := 7) (v := ?_) rfl (by kernel_rfl) (fun _ _ _ h => h) (Or.inl ⟨by rfl, ?_⟩) (by assumption) ?_
      rotate_left
      · (intro w hSw; (try dsimp only at hSw); go_simp; try with_reducible rfl)
      try simp only [Act.put, List.getElem_toArray, List.getElem_cons_zero, List.getElem_cons_succ, List.setIfInBounds_toArray, List.set_cons_zero, List.set_cons_succ]
      refine wpAnyK_take (i := 8) (v := ?_) rfl (by kernel_rfl) (fun _ _ _ h => h) (Or.inl ⟨by rfl, ?_⟩) (by assumption) ?_
      rotate_left
      · (intro w hSw; (try dsimp only at hSw); go_simp; try with_reducible rfl)
      try simp only [Act.put, List.getElem_toArray, List.getElem_cons_zero, List.getElem_cons_succ, List.setIfInBounds_toArray, List.set_cons_zero, List.set_cons_succ]
      refine wpAnyK_take (i := 9) (v := ?_) rfl (by kernel_rfl) (fun _ _ _ h => h) (Or.inl ⟨by rfl, ?_⟩) (by assumption) ?_
      rotate_left
      · (intro w hSw; (try dsimp only at hSw); go_simp; try with_reducible rfl)
      try simp only [Act.put, List.getElem_toArray, List.getElem_cons_zero, List.getElem_cons_succ, List.setIfInBounds_toArray, List.set_cons_zero, List.set_cons_succ]
      refine wpAnyK_take (i := 10) (v := ?_) rfl (by kernel_rfl) (fun _ _ _ h => h) (Or.inl ⟨by rfl, ?_⟩) (by assumption) ?_
      rotate_left
      · (intro w hSw; (try dsimp only at hSw); go_simp; try with_reducible rfl)
      try simp only [Act.put, List.getElem_toArray, List.getElem_cons_zero, List.getElem_cons_succ, List.setIfInBounds_toArray, List.set_cons_zero, List.set_cons_succ]
      refine wpAnyK_take (i := 11) (v := ?_) rfl (by kernel_rfl) (fun _ _ _ h => h) (Or.inl ⟨by rfl, ?_⟩) (by assumption) ?_
      rotate_left
      · (intro w hSw; (try dsimp only at hSw); go_simp; try with_reducible rfl)
      try simp only [Act.put, List.getElem_toArray, List.getElem_cons_zero, List.getElem_cons_succ, List.setIfInBounds_toArray, List.set_cons_zero, List.set_cons_succ]
      refine wpAnyK_take (i := 12) (v := ?_) rfl (by kernel_rfl) (fun _ _ _ h => h) (Or.inl ⟨by rfl, ?_⟩) (by assumption) ?_
      rotate_left
      · (intro w hSw; (try dsimp only at hSw); go_simp; try with_reducible rfl)
      try simp only [Act.put, List.getElem_toArray, List.getElem_cons_zero, List.getElem_cons_succ, List.setIfInBounds_toArray, List.set_cons_zero, List.set_cons_succ]
      refine wpAnyK_take (i := 14) (v := ?_) rfl (by kernel_rfl) (fun _ _ _ h => h) (Or.inl ⟨by rfl, ?_⟩) (by assumption) ?_
      rotate_left
      · (intro w hSw; (try dsimp only at hSw); go_simp; try with_reducible rfl)
      try simp only [Act.put, List.getElem_toArray, List.getElem_cons_zero, List.getElem_cons_succ, List.setIfInBounds_toArray, List.set_cons_zero, List.set_cons_succ]
      refine wpAnyK_take (i := 15) (v := ?_) rfl (by kernel_rfl) (fun _ _ _ h => h) (Or.inl ⟨by rfl, ?_⟩) (by assumption) ?_
      rotate_left
      · (intro w hSw; (try dsimp only at hSw); go_simp; try with_reducible rfl)
      try simp only [Act.put, List.getElem_toArray, List.getElem_cons_zero, List.getElem_cons_succ, List.setIfInBounds_toArray, List.set_cons_zero, List.set_cons_succ]
      refine wpAnyK_take (i := 16) (v := ?_) rfl (by kernel_rfl) (fun _ _ _ h => h) (Or.inl ⟨by rfl, ?_⟩) (by assumption) ?_
      rotate_left
      · (intro w hSw; (try dsimp only at hSw); go_simp; try with_reducible rfl)
      try simp only [Act.put, List.getElem_toArray, List.getElem_cons_zero, List.getElem_cons_succ, List.setIfInBounds_toArray, List.set_cons_zero, List.set_cons_succ]
      refine wpAnyK_step (i := 13) rfl (by kernel_rfl) (fun K hK => ?_)
      go_simp
      with_reducible refine (sums_any af nf capf zf pf jf HF.out.good xs HXS.out.1 (by have := HXS.out.2; omega) bb HSU.out _ _ _ _ (XF5.out.row.under O1.out) (HL5.out.under O1.out)).mono ?_
      rintro e x2 ⟨rfl, hb⟩
      have O2 := Lib.hid (O1.out.trans (hb.mono O1.out.size))
      clear hb
      refine hK.out _ _ (KS.out _ O2.out) (fun hHeld2 => ?_)
      clear hK K hHeld1
      try simp only [Act.put, List.getElem_toArray, List.getElem_cons_zero, List.getElem_cons_succ, List.setIfInBounds_toArray, List.set_cons_zero, List.set_cons_succ]
      refine wpAnyK_step (i := 17) rfl (by kernel_rfl) (fun K hK => ?_)
      go_simp
      with_reducible refine (rcompare_all x y bn bd _).mono ?_
      rintro e x3 ⟨rfl, hb⟩
      rw [HC.out]
      have O3 := Lib.hid (O2.out.trans (hb.mono O2.out.size))
      clear hb
      refine hK.out _ _ (KS.out _ O3.out) (fun hHeld3 => ?_)
      clear hK K hHeld2
      try simp only [Act.put, List.getElem_toArray, List.getElem_cons_zero, List.getElem_cons_succ, List.setIfInBounds_toArray, List.set_cons_zero, List.set_cons_succ]
      refine wpAnyK_take (i := 18) (v := ?_) rfl (by kernel_rfl) (fun _ _ _ h => h) (Or.inl ⟨by rfl, ?_⟩) (by assumption) ?_
      rotate_left
      · (intro w hSw; (try dsimp only at hSw); go_simp; try with_reducible rfl)
      try simp only [Act.put, List.getElem_toArray, List.getElem_cons_zero, List.getElem_cons_succ, List.setIfInBounds_toArray, List.set_cons_zero, List.set_cons_succ]
      refine wpAnyK_take (i := 19) (v := ?_) rfl (by kernel_rfl) (fun _ _ _ h => h) (Or.inl ⟨by rfl, ?_⟩) (by assumption) ?_
      rotate_left
      · (intro w hSw; (try dsimp only at hSw); go_simp; try with_reducible rfl)
      try simp only [Act.put, List.getElem_toArray, List.getElem_cons_zero, List.getElem_cons_succ, List.setIfInBounds_toArray, List.set_cons_zero, List.set_cons_succ]
      refine wpAnyK_take (i := 20) (v := ?_) rfl (by kernel_rfl) (fun _ _ _ h => h) (Or.inl ⟨by rfl, ?_⟩) (by assumption) ?_
      rotate_left
      · (intro w hSw; (try dsimp only at hSw); go_simp; try with_reducible rfl)
      try simp only [Act.put, List.getElem_toArray, List.getElem_cons_zero, List.getElem_cons_succ, List.setIfInBounds_toArray, List.set_cons_zero, List.set_cons_succ]
      refine wpAnyK_take (i := 21) (v := ?_) rfl (by kernel_rfl) (fun _ _ _ h => h) (Or.inl ⟨by rfl, ?_⟩) (by assumption) ?_
      rotate_left
      · (intro w hSw; (try dsimp only at hSw); go_simp; try with_reducible rfl)
      try simp only [Act.put, List.getElem_toArray, List.getElem_cons_zero, List.getElem_cons_succ, List.setIfInBounds_toArray, List.set_cons_zero, List.set_cons_succ]
      refine wpAnyK_step (i := 22) rfl (by kernel_rfl) (fun K hK => ?_)
      go_simp
      with_reducible refine (awake11 _).mono ?_
      rintro e x4 ⟨rfl, hb⟩
      have O4 := Lib.hid (O3.out.trans (hb.mono O3.out.size))
      clear hb
      refine hK.out _ _ (KS.out _ O4.out) (fun hHeld4 => ?_)
      clear hK K hHeld3
      try simp only [Act.put, List.getElem_toArray, List.getElem_cons_zero, List.getElem_cons_succ, List.setIfInBounds_toArray, List.set_cons_zero, List.set_cons_succ]
      refine wpAnyK_take (i := 23) (v := ?_) rfl (by kernel_rfl) (fun _ _ _ h => h) (Or.inl ⟨by rfl, ?_⟩) (by assumption) ?_
      rotate_left
      · (intro w hSw; (try dsimp only at hSw); go_simp; try with_reducible rfl)
      try simp only [Act.put, List.getElem_toArray, List.getElem_cons_zero, List.getElem_cons_succ, List.setIfInBounds_toArray, List.set_cons_zero, List.set_cons_succ]
      refine wpAnyK_done (by kernel_rfl) ?_
      simp only [List.drop_succ_cons, List.drop_zero]
      clear hHeld4
      have HBZ := Lib.hid (HB5.out.trans (O4.out.mono HB5.out.size))
      go_wp2_with fail
      go_ret
      exact ⟨rfl, HBZ.out⟩

end Go.Proofs.Ytombgfpheiopgaa
