/- The walk of RemainderValues. By the verifier's side. -/
import Derived.Test.YtknimlpdpgpliaaLRemP
import Derived.Test.YtknimlpdpgpliaaLPwV
import Derived.Test.YtknimlpdpgpliaaLKeepC
namespace Go.Proofs.Ytknimlpdpgpliaa
open Go.RowKit
set_option linter.unusedSimpArgs false
set_option linter.unusedVariables false

theorem minK_snoc (F : Nat → Int) : ∀ k t, minK F (k + 1) t = min (minK F k t) (F (t + k + 1))
  | 0, t => rfl
  | k + 1, t => by
    show min (F t) (minK F (k + 1) (t + 1)) = min (min (F t) (minK F k (t + 1))) (F (t + (k + 1) + 1))
    rw [minK_snoc F k (t + 1), show t + 1 + k + 1 = t + (k + 1) + 1 by omega]
    omega

/-- The greatest of the first k, 0 ahead of them. -/
def topK (F : Nat → Int) : Nat → Int
  | 0 => 0
  | k + 1 => max (topK F k) (F k)
/-- The least of k from t on, Infinite ahead of them. -/
def lowK (F : Nat → Int) (t : Nat) : Nat → Int
  | 0 => infV
  | k + 1 => min (lowK F t k) (F (t + k))

section
variable {zs ys : List Int} {p q : Nat} {inc jnc : Int}
theorem dif_le (g : Good zs p inc) (k : Good ys q jnc) {t : Nat} (ht : t ≤ 1048576) : 0 ≤ encF (eDif zs p inc ys q jnc) t ∧ encF (eDif zs p inc ys q jnc) t ≤ infV := by
  cases h : eDif zs p inc ys q jnc t with
  | none => rw [encF_none h]; unfold infV; omega
  | some x => rw [encF_some h]; have := eDif_bd g k h; unfold infV; omega
theorem top_rest (g : Good zs p inc) (k : Good ys q jnc) : ∀ t, t ≤ 999 → topK (encF (eDif zs p inc ys q jnc)) (t + 1) = encF (eRest zs p inc ys q jnc) t
  | 0, _ => by
    have := dif_le g k (t := 0) (by omega)
    show max 0 (encF (eDif zs p inc ys q jnc) 0) = encF (eDif zs p inc ys q jnc) 0
    omega
  | t + 1, ht => by
    show max (topK _ (t + 1)) _ = _
    rw [top_rest g k t (by omega), enc_rest g k (by omega)]
theorem low_minK (F : Nat → Int) (t : Nat) (h : F t ≤ infV) : ∀ k, lowK F t (k + 1) = minK F k t
  | 0 => by show min infV (F (t + 0)) = F t; rw [Nat.add_zero]; omega
  | k + 1 => by
    show min (lowK F t (k + 1)) (F (t + (k + 1))) = _
    rw [low_minK F t h k, minK_snoc, show t + (k + 1) = t + k + 1 by omega]
theorem mult24 (hp : 24 % p = 0) (hq : 24 % q = 0) (h1 : 1 ≤ p) (h2 : 1 ≤ q) : Mult p q 24 := ⟨by omega, by have := Nat.div_add_mod 24 p; rw [hp, Nat.add_zero, Nat.mul_comm] at this; exact this, by have := Nat.div_add_mod 24 q; rw [hq, Nat.add_zero, Nat.mul_comm] at this; exact this⟩
theorem low_above (o : OkCur 6 zs p inc) (l : OkCur 6 ys q jnc) {t : Nat} (ht : t < 600) : lowK (encF (eDif zs p inc ys q jnc)) t 4000 = encF (eAbove zs p inc ys q jnc) t := by
  have g := o.good
  have k := l.good
  have hM := mult24 o.div l.div g.p1 k.p1
  rw [low_minK _ _ (dif_le g k (by omega)).2 3999]
  by_cases hst : Still zs p inc ys q jnc 24
  · exact (above_win g k hM hst (by omega) (by omega) (by omega)).symm
  · have f1 : ¬ InfC zs := fun h => hst fun h1 => absurd h h1
    have f2 : ¬ InfC ys := fun h => hst fun _ h1 => absurd h h1
    have hneg : ((24 / p : Nat) : Int) * inc - ((24 / q : Nat) : Int) * jnc < 0 := by
      refine Int.lt_of_not_ge fun h => hst fun _ _ => h
    rw [encF_some (congrFun (above_settled g k (settle_neg g k hM f1 f2 hneg)) t)]
    have e1 := ((g.per f1).mul (24 / p)).mono (s' := 16) (by have := o.few; omega)
    have e2 := ((k.per f2).mul (24 / q)).mono (s' := 16) (by have := l.few; omega)
    rw [hM.dp] at e1
    rw [hM.dq] at e2
    have e3 := e1.mul 147 16 (Nat.le_refl _)
    have e4 := e2.mul 147 16 (Nat.le_refl _)
    have e5 := o.slow f1 16
    have e6 := (k.bd f2 16).1
    have hz : encF (eDif zs p inc ys q jnc) 3544 = 0 := by
      rw [encF_some (eDif_fin f1 f2 3544)]
      have a1 : atC zs p inc 3544 = atC zs p inc 16 + 147 * (((24 / p : Nat) : Int) * inc) := e3
      have a2 : atC ys q jnc 3544 = atC ys q jnc 16 + 147 * (((24 / q : Nat) : Int) * jnc) := e4
      omega
    have h1 := minK_le (encF (eDif zs p inc ys q jnc)) 3999 t 3544 (by omega) (by omega)
    obtain ⟨s, s1, s2, e⟩ := minK_found (encF (eDif zs p inc ys q jnc)) 3999 t
    have h2 := (dif_le g k (t := s) (by omega)).1
    omega
end

set_option maxRecDepth 100000 in
set_option maxHeartbeats 6400000 in
theorem remainderValues_walk (W : World) (a : Option Addr) (n cap : Nat) (hrow : RowAt W a n cap) (at0 : Int) (hat : In64 at0) :
    Calls Try.prog 4 #[.slice a n cap, .int .i64 at0] W fun e w' => e = .returned (.bool true) ∧ Below W.heap.size W w' := by
  have HR := Lib.hid hrow
  have HAT := Lib.hid hat
  clear hrow hat
  go_enter Try.func4, Try.ntmps4
  go_wp2_with fail
  refine (new_any a n cap _ HR.out).mono ?_
  rintro e u1 ⟨rfl, hb1, hz1, ra, rn, rc, hs1⟩
  have HB1 := Lib.hid hb1
  have HS1 := Lib.hid hs1
  have Z1 := Lib.hid hz1
  clear hb1 hz1 hs1
  go_wp2_with fail
  refine (curve_any 6 (by omega) (by omega) _ ra rn rc _ HS1.out).mono ?_
  rintro e u2 ⟨af, nf, capf, zf, pf, jf, rfl, hs2, he2, hr2, ok2, hx2⟩
  have OF := Lib.hid ok2
  have HS2 := Lib.hid hs2
  have R2 := Lib.hid hr2
  have X2 := Lib.hid (show ∀ x, af = some x → ¬ x.block = W.heap.size from fun x hx => by have := hx2 x hx; have := Z1.out; omega)
  have HB2 := Lib.hid (HB1.out.trans (he2.below (Nat.le_refl _) HB1.out.size))
  clear hs2 he2 hr2 ok2 hx2
  go_wp2_with fail
  refine (curve_any 6 (by omega) (by omega) _ ra rn rc _ HS2.out).mono ?_
  rintro e u3 ⟨ag, ng, capg, zg, pg, jg, rfl, hs3, he3, hr3, ok3, hx3⟩
  have OG := Lib.hid ok3
  have HS3 := Lib.hid hs3
  have R3 := Lib.hid hr3
  have R23 := Lib.hid (R2.out.apart he3 X2.out)
  have X3 := Lib.hid (show ∀ x, ag = some x → ¬ x.block = W.heap.size from fun x hx => by have := hx3 x hx; have := Z1.out; have := he3.size; have := HB2.out.size; have h9 : W.heap.size < u2.heap.size := lt_of_cell (src_cell HS2.out); omega)
  have HB3 := Lib.hid (HB2.out.trans (he3.below (Nat.le_refl _) HB2.out.size))
  clear hs3 he3 hr3 ok3 hx3
  obtain ⟨w0, hw⟩ : ∃ W, (u3.alloc (.cells #[.slice af nf capf, .int .i64 pf, .int .i64 jf] 26)).alloc (.cells #[.slice ag ng capg, .int .i64 pg, .int .i64 jg] 26) = W := ⟨_, rfl⟩
  have hz : Below u3.heap.size u3 w0 := by rw [← hw]; exact (below_box _).alloc (by simp) _
  have Xf := Lib.hid (show Bx w0 u3.heap.size af nf capf pf jf zf by rw [← hw]; exact (Bx.new R23.out).under (below_box _))
  have Xg := Lib.hid (show Bx w0 (u3.heap.size + 1) ag ng capg pg jg zg by
    rw [← hw]
    have := Bx.new (p := pg) (inc := jg) (R3.out.alloc (.cells #[.slice af nf capf, .int .i64 pf, .int .i64 jf] 26))
    rwa [show (u3.alloc (.cells #[.slice af nf capf, .int .i64 pf, .int .i64 jf] 26)).heap.size = u3.heap.size + 1 by simp] at this)
  have HB4 := Lib.hid (HB3.out.trans (hz.mono HB3.out.size))
  have SR0 := Lib.hid (src_under HS3.out hz)
  have SW := Lib.hid (show W.heap.size < u3.heap.size ∧ u3.heap.size ≤ w0.heap.size from ⟨lt_of_cell (src_cell HS3.out), hz.size⟩)
  have hw0 := hw
  clear hw hz
  obtain ⟨c0, c1, c2, c3, c4, c5⟩ := Xf.out.box
  obtain ⟨d0, d1, d2, d3, d4, d5⟩ := Xg.out.box
  go_wp2_with fail
  try rw [hw0]
  clear hw0
  clear c0 c1 c2 c3 c4 c5 d0 d1 d2 d3 d4 d5
  with_reducible refine ((mrest_at af nf capf zf pf jf OF.out.good ag ng capg zg pg jg OG.out.good (by have := OF.out.p8; omega) (by have := OG.out.p8; omega) rfl _ Xf.out.row Xg.out.row).mono fun _ _ h => h.mx).mono ?_
  rintro e v1 ⟨a1, n1, cap1, z1, p1, i1, c1, rfl, hb, hr, hm, hc, hx⟩
  obtain ⟨w1, hw⟩ : ∃ W, v1.alloc (.cells #[.slice a1 n1 cap1, .int .i64 p1, .int .i64 i1] 26) = W := ⟨_, rfl⟩
  have hz : Below w0.heap.size w0 w1 := by rw [← hw]; exact hb.trans ((below_box _).mono hb.size)
  have Xf_1 := Lib.hid (Xf.out.under hz)
  have Xg_1 := Lib.hid (Xg.out.under hz)
  have HB_1 := Lib.hid (HB4.out.trans (hz.mono HB4.out.size))
  have Xr_1 := Lib.hid (show BxI w1 v1.heap.size a1 n1 cap1 p1 i1 z1 by rw [← hw]; exact BxI.new hr)
  have HM1 := Lib.hid hm
  have HC1 := Lib.hid hc
  have hw1 := hw
  obtain ⟨c0, c1', c2', c3', c4', c5'⟩ := Xf_1.out.box
  obtain ⟨d0, d1, d2, d3, d4, d5⟩ := Xg_1.out.box
  clear hb hr hm hc hx hz hw
  go_wp2_with fail
  try rw [hw1]
  clear hw1 c0 c1' c2' c3' c4' c5' d0 d1 d2 d3 d4 d5
  with_reducible refine ((mabove_at af nf capf zf pf jf OF.out.good ag ng capg zg pg jg OG.out.good (by have := OF.out.p8; omega) (by have := OG.out.p8; omega) rfl _ Xf_1.out.row Xg_1.out.row).mono fun _ _ h => h.mx).mono ?_
  rintro e v2 ⟨a2, n2, cap2, z2, p2, i2, c2, rfl, hb, hr, hm, hc, hx⟩
  obtain ⟨w2, hw⟩ : ∃ W, v2.alloc (.cells #[.slice a2 n2 cap2, .int .i64 p2, .int .i64 i2] 26) = W := ⟨_, rfl⟩
  have hz : Below w1.heap.size w1 w2 := by rw [← hw]; exact hb.trans ((below_box _).mono hb.size)
  have Xf_2 := Lib.hid (Xf_1.out.under hz)
  have Xg_2 := Lib.hid (Xg_1.out.under hz)
  have Xr_2 := Lib.hid (Xr_1.out.under hz)
  have HB_2 := Lib.hid (HB_1.out.trans (hz.mono HB_1.out.size))
  have Xa_2 := Lib.hid (show BxI w2 v2.heap.size a2 n2 cap2 p2 i2 z2 by rw [← hw]; exact BxI.new hr)
  have HM2 := Lib.hid hm
  have HC2 := Lib.hid hc
  have HW2 := Lib.hid hw
  clear hb hr hm hc hx hz hw
  obtain ⟨tz, htz⟩ : ∃ m, at0 % 600 = m := ⟨_, rfl⟩
  have htb : 0 ≤ tz ∧ tz < 600 := by rw [← htz]; exact ⟨Int.emod_nonneg _ (by omega), Int.emod_lt_of_pos _ (by omega)⟩
  obtain ⟨htb0, htb1⟩ := htb
  obtain ⟨T, rfl⟩ := Int.eq_ofNat_of_zero_le htb0
  have hT : T < 600 := by omega
  have HTZ := Lib.hid htz
  obtain ⟨D, hD⟩ : ∃ D, encF (eDif zf pf jf zg pg jg) = D := ⟨_, rfl⟩
  have HD := Lib.hid hD
  obtain ⟨vm, hvm⟩ : ∃ v, encF (eRest zf pf jf zg pg jg) T = v := ⟨_, rfl⟩
  obtain ⟨vl, hvl⟩ : ∃ v, encF (eAbove zf pf jf zg pg jg) T = v := ⟨_, rfl⟩
  have HVM := Lib.hid (show topK D (T + 1) = vm ∧ enc (eRest zf pf jf zg pg jg T) = vm from ⟨by rw [← hD, ← hvm]; exact top_rest OF.out.good OG.out.good T (by omega), hvm⟩)
  have HVL := Lib.hid (show lowK D T 4000 = vl ∧ enc (eAbove zf pf jf zg pg jg T) = vl from ⟨by rw [← hD, ← hvl]; exact low_above OF.out OG.out hT, hvl⟩)
  have HDB := Lib.hid (show ∀ t, t ≤ 1048576 → 0 ≤ D t ∧ D t ≤ infV from fun t ht => by rw [← hD]; exact dif_le OF.out.good OG.out.good ht)
  clear htz hD hvm hvl htb0 htb1
  rcases HC1.out with rfl | rfl <;> rcases HC2.out with rfl | rfl
  · go_wp2_with fail
    try rw [HW2.out]
    refine (mod_any at0 600 HAT.out (by omega) (by omega) _).mono ?_
    rintro e w4 ⟨rfl, rfl⟩
    rw [HTZ.out]
    go_wp2_with fail
    have B0 := Lib.hid (Below.refl w2.heap.size w2)
    go_loopw [13, 15] (fun s13 s15 wx => ∃ k : Nat, s15 = .int .i64 k ∧ s13 = .int .i64 (topK D k) ∧ k ≤ T + 1 ∧ Hid (Below w2.heap.size w2 wx)) (fun _ s15 _ => T + 1 - (intOf s15).toNat)
    case atStart => exact ⟨0, by go_num, rfl, by omega, B0⟩
    case round =>
      obtain ⟨k, rfl, rfl, hk, HBk⟩ := hrel
      obtain ⟨wk, rfl⟩ : ∃ u : World, u = wr := ⟨_, rfl⟩
      by_cases hlt : k ≤ T
      · have hlti : (k : Int) ≤ (T : Int) := by omega
        obtain ⟨x, hx⟩ : ∃ x, D k = x := ⟨_, rfl⟩
        obtain ⟨y, hy⟩ : ∃ y, topK D k = y := ⟨_, rfl⟩
        have HX := Lib.hid (show encF (eDif zf pf jf zg pg jg) k = x by rw [HD.out]; exact hx)
        have hnx : topK D (k + 1) = max y x := by rw [← hx, ← hy]; rfl
        rw [hy]
        obtain ⟨c0, c1', c2', c3', c4', c5'⟩ := (Xf_2.out.under HBk.out).box
        obtain ⟨d0, d1, d2, d3, d4, d5⟩ := (Xg_2.out.under HBk.out).box
        have HNX := Lib.hid hnx
        clear hx hy hnx
        go_wp2_with fail
        clear c0 c1' c2' c3' c4' c5' d0 d1 d2 d3 d4 d5
        with_reducible refine (ldif_any af nf capf zf pf jf OF.out.good ag ng capg zg pg jg OG.out.good _ k rfl (by omega) x HX.out _ (Xf_2.out.under HBk.out).row (Xg_2.out.under HBk.out).row).mono ?_
        rintro e w5 ⟨rfl, hb⟩
        have HB5 := Lib.hid (HBk.out.trans (hb.mono HBk.out.size))
        clear hb
        by_cases hxy : y < x
        · have hm : max y x = x := by omega
          have HMM := Lib.hid (HNX.out.trans hm)
          clear hm
          go_wp2_with fail
          go_roundw
          case rel => exact ⟨k + 1, by go_num, by rw [HMM.out], by omega, HB5⟩
          case measure => simp [intOf]; omega
        · have hm : max y x = y := by omega
          have HMM := Lib.hid (HNX.out.trans hm)
          clear hm
          go_wp2_with fail
          go_roundw
          case rel =>
            refine ⟨k + 1, by go_num, ?_, by omega, HB5⟩
            rw [HMM.out]
            all_goals (congr 1; split <;> omega)
          case measure => simp [intOf]; omega
      · obtain rfl : k = T + 1 := by omega
        rw [HVM.out.1]
        have hlti : ¬ ((T : Int) + 1) ≤ (T : Int) := by omega
        go_wp2_with fail
        go_loopw [14, 16] (fun s14 s16 wx => ∃ k : Nat, s16 = .int .i64 ((T : Int) + (k : Int)) ∧ s14 = .int .i64 (lowK D T k) ∧ k ≤ 4000 ∧ Hid (Below w2.heap.size w2 wx)) (fun _ s16 _ => T + 4000 - (intOf s16).toNat)
        case atStart => exact ⟨0, by go_num, rfl, by omega, HBk⟩
        case round =>
          obtain ⟨k, rfl, rfl, hk, HBl⟩ := hrel
          obtain ⟨wl, rfl⟩ : ∃ u : World, u = wr := ⟨_, rfl⟩
          by_cases hlt : k < 4000
          · have hlti : (T : Int) + (k : Int) < (T : Int) + 4000 := by omega
            obtain ⟨x, hx⟩ : ∃ x, D (T + k) = x := ⟨_, rfl⟩
            obtain ⟨y, hy⟩ : ∃ y, lowK D T k = y := ⟨_, rfl⟩
            have HX := Lib.hid (show encF (eDif zf pf jf zg pg jg) (T + k) = x by rw [HD.out]; exact hx)
            have hnx : lowK D T (k + 1) = min y x := by rw [← hx, ← hy]; rfl
            rw [hy]
            obtain ⟨c0, c1', c2', c3', c4', c5'⟩ := (Xf_2.out.under HBl.out).box
            obtain ⟨d0, d1, d2, d3, d4, d5⟩ := (Xg_2.out.under HBl.out).box
            have HNX := Lib.hid hnx
            clear hx hy hnx
            go_wp2_with fail
            clear c0 c1' c2' c3' c4' c5' d0 d1 d2 d3 d4 d5
            with_reducible refine (ldif_any af nf capf zf pf jf OF.out.good ag ng capg zg pg jg OG.out.good _ (T + k) (by omega) (by omega) x HX.out _ (Xf_2.out.under HBl.out).row (Xg_2.out.under HBl.out).row).mono ?_
            rintro e w5 ⟨rfl, hb⟩
            have HB5 := Lib.hid (HBl.out.trans (hb.mono HBl.out.size))
            clear hb
            by_cases hxy : y < x
            · have hm : min y x = y := by omega
              have HMM := Lib.hid (HNX.out.trans hm)
              clear hm
              go_wp2_with fail
              go_roundw
              case rel => exact ⟨k + 1, by go_num, by rw [HMM.out], by omega, HB5⟩
              case measure => simp [intOf]; omega
            · have hm : min y x = x := by omega
              have HMM := Lib.hid (HNX.out.trans hm)
              clear hm
              go_wp2_with fail
              go_roundw
              case rel =>
                refine ⟨k + 1, by go_num, ?_, by omega, HB5⟩
                rw [HMM.out]
                all_goals (congr 1; split <;> omega)
              case measure => simp [intOf]; omega
          · obtain rfl : k = 4000 := by omega
            rw [HVL.out.1]
            have BV0 := HBl
            obtain ⟨c0, c1', c2', c3', c4', c5'⟩ := (Xr_2.out.under BV0.out).box
            go_wp2_with fail
            clear c0 c1' c2' c3' c4' c5'
            with_reducible refine (value_mx HM1.out T (by omega) vm (by rw [if_pos rfl]; exact HVM.out.2.symm) 0 (by decide) _ (Xr_2.out.under BV0.out).row).mono ?_
            rintro e wv1 ⟨rfl, hb⟩
            obtain ⟨wn1, rfl⟩ : ∃ u : World, u = wv1 := ⟨_, rfl⟩
            have BV1 := Lib.hid (BV0.out.trans (hb.mono BV0.out.size))
            clear hb
            obtain ⟨c0, c1', c2', c3', c4', c5'⟩ := (Xa_2.out.under BV1.out).box
            go_wp2_with fail
            clear c0 c1' c2' c3' c4' c5'
            with_reducible refine (value_mx HM2.out T (by omega) vl (by rw [if_pos rfl]; exact HVL.out.2.symm) 0 (by decide) _ (Xa_2.out.under BV1.out).row).mono ?_
            rintro e wv2 ⟨rfl, hb⟩
            obtain ⟨wn2, rfl⟩ : ∃ u : World, u = wv2 := ⟨_, rfl⟩
            have BV2 := Lib.hid (BV1.out.trans (hb.mono BV1.out.size))
            clear hb
            go_wp2_with fail
            refine (awake6 _).mono ?_
            rintro e y ⟨rfl, hb⟩
            have HZ := Lib.hid (HB_2.out.trans ((BV2.out.trans (hb.mono BV2.out.size)).mono HB_2.out.size))
            clear hb
            go_wp2_with fail
            go_ret
            exact ⟨rfl, HZ.out⟩
  · go_wp2_with fail
    try rw [HW2.out]
    refine (mod_any at0 600 HAT.out (by omega) (by omega) _).mono ?_
    rintro e w4 ⟨rfl, rfl⟩
    rw [HTZ.out]
    go_wp2_with fail
    have B0 := Lib.hid (Below.refl w2.heap.size w2)
    go_loopw [13, 15] (fun s13 s15 wx => ∃ k : Nat, s15 = .int .i64 k ∧ s13 = .int .i64 (topK D k) ∧ k ≤ T + 1 ∧ Hid (Below w2.heap.size w2 wx)) (fun _ s15 _ => T + 1 - (intOf s15).toNat)
    case atStart => exact ⟨0, by go_num, rfl, by omega, B0⟩
    case round =>
      obtain ⟨k, rfl, rfl, hk, HBk⟩ := hrel
      obtain ⟨wk, rfl⟩ : ∃ u : World, u = wr := ⟨_, rfl⟩
      by_cases hlt : k ≤ T
      · have hlti : (k : Int) ≤ (T : Int) := by omega
        obtain ⟨x, hx⟩ : ∃ x, D k = x := ⟨_, rfl⟩
        obtain ⟨y, hy⟩ : ∃ y, topK D k = y := ⟨_, rfl⟩
        have HX := Lib.hid (show encF (eDif zf pf jf zg pg jg) k = x by rw [HD.out]; exact hx)
        have hnx : topK D (k + 1) = max y x := by rw [← hx, ← hy]; rfl
        rw [hy]
        obtain ⟨c0, c1', c2', c3', c4', c5'⟩ := (Xf_2.out.under HBk.out).box
        obtain ⟨d0, d1, d2, d3, d4, d5⟩ := (Xg_2.out.under HBk.out).box
        have HNX := Lib.hid hnx
        clear hx hy hnx
        go_wp2_with fail
        clear c0 c1' c2' c3' c4' c5' d0 d1 d2 d3 d4 d5
        with_reducible refine (ldif_any af nf capf zf pf jf OF.out.good ag ng capg zg pg jg OG.out.good _ k rfl (by omega) x HX.out _ (Xf_2.out.under HBk.out).row (Xg_2.out.under HBk.out).row).mono ?_
        rintro e w5 ⟨rfl, hb⟩
        have HB5 := Lib.hid (HBk.out.trans (hb.mono HBk.out.size))
        clear hb
        by_cases hxy : y < x
        · have hm : max y x = x := by omega
          have HMM := Lib.hid (HNX.out.trans hm)
          clear hm
          go_wp2_with fail
          go_roundw
          case rel => exact ⟨k + 1, by go_num, by rw [HMM.out], by omega, HB5⟩
          case measure => simp [intOf]; omega
        · have hm : max y x = y := by omega
          have HMM := Lib.hid (HNX.out.trans hm)
          clear hm
          go_wp2_with fail
          go_roundw
          case rel =>
            refine ⟨k + 1, by go_num, ?_, by omega, HB5⟩
            rw [HMM.out]
            all_goals (congr 1; split <;> omega)
          case measure => simp [intOf]; omega
      · obtain rfl : k = T + 1 := by omega
        rw [HVM.out.1]
        have hlti : ¬ ((T : Int) + 1) ≤ (T : Int) := by omega
        go_wp2_with fail
        go_loopw [14, 16] (fun s14 s16 wx => ∃ k : Nat, s16 = .int .i64 ((T : Int) + (k : Int)) ∧ s14 = .int .i64 (lowK D T k) ∧ k ≤ 4000 ∧ Hid (Below w2.heap.size w2 wx)) (fun _ s16 _ => T + 4000 - (intOf s16).toNat)
        case atStart => exact ⟨0, by go_num, rfl, by omega, HBk⟩
        case round =>
          obtain ⟨k, rfl, rfl, hk, HBl⟩ := hrel
          obtain ⟨wl, rfl⟩ : ∃ u : World, u = wr := ⟨_, rfl⟩
          by_cases hlt : k < 4000
          · have hlti : (T : Int) + (k : Int) < (T : Int) + 4000 := by omega
            obtain ⟨x, hx⟩ : ∃ x, D (T + k) = x := ⟨_, rfl⟩
            obtain ⟨y, hy⟩ : ∃ y, lowK D T k = y := ⟨_, rfl⟩
            have HX := Lib.hid (show encF (eDif zf pf jf zg pg jg) (T + k) = x by rw [HD.out]; exact hx)
            have hnx : lowK D T (k + 1) = min y x := by rw [← hx, ← hy]; rfl
            rw [hy]
            obtain ⟨c0, c1', c2', c3', c4', c5'⟩ := (Xf_2.out.under HBl.out).box
            obtain ⟨d0, d1, d2, d3, d4, d5⟩ := (Xg_2.out.under HBl.out).box
            have HNX := Lib.hid hnx
            clear hx hy hnx
            go_wp2_with fail
            clear c0 c1' c2' c3' c4' c5' d0 d1 d2 d3 d4 d5
            with_reducible refine (ldif_any af nf capf zf pf jf OF.out.good ag ng capg zg pg jg OG.out.good _ (T + k) (by omega) (by omega) x HX.out _ (Xf_2.out.under HBl.out).row (Xg_2.out.under HBl.out).row).mono ?_
            rintro e w5 ⟨rfl, hb⟩
            have HB5 := Lib.hid (HBl.out.trans (hb.mono HBl.out.size))
            clear hb
            by_cases hxy : y < x
            · have hm : min y x = y := by omega
              have HMM := Lib.hid (HNX.out.trans hm)
              clear hm
              go_wp2_with fail
              go_roundw
              case rel => exact ⟨k + 1, by go_num, by rw [HMM.out], by omega, HB5⟩
              case measure => simp [intOf]; omega
            · have hm : min y x = x := by omega
              have HMM := Lib.hid (HNX.out.trans hm)
              clear hm
              go_wp2_with fail
              go_roundw
              case rel =>
                refine ⟨k + 1, by go_num, ?_, by omega, HB5⟩
                rw [HMM.out]
                all_goals (congr 1; split <;> omega)
              case measure => simp [intOf]; omega
          · obtain rfl : k = 4000 := by omega
            rw [HVL.out.1]
            have BV0 := HBl
            obtain ⟨c0, c1', c2', c3', c4', c5'⟩ := (Xr_2.out.under BV0.out).box
            go_wp2_with fail
            clear c0 c1' c2' c3' c4' c5'
            with_reducible refine (value_mx HM1.out T (by omega) vm (by rw [if_pos rfl]; exact HVM.out.2.symm) 0 (by decide) _ (Xr_2.out.under BV0.out).row).mono ?_
            rintro e wv1 ⟨rfl, hb⟩
            obtain ⟨wn1, rfl⟩ : ∃ u : World, u = wv1 := ⟨_, rfl⟩
            have BV1 := Lib.hid (BV0.out.trans (hb.mono BV0.out.size))
            clear hb
            obtain ⟨c0, c1', c2', c3', c4', c5'⟩ := (Xa_2.out.under BV1.out).box
            go_wp2_with fail
            clear c0 c1' c2' c3' c4' c5'
            with_reducible refine (value_mx HM2.out T (by omega) 0 (if_neg (by decide)).symm 1 (by decide) _ (Xa_2.out.under BV1.out).row).mono ?_
            rintro e wv2 ⟨rfl, hb⟩
            obtain ⟨wn2, rfl⟩ : ∃ u : World, u = wv2 := ⟨_, rfl⟩
            have BV2 := Lib.hid (BV1.out.trans (hb.mono BV1.out.size))
            clear hb
            go_wp2_with fail
            refine (awake6 _).mono ?_
            rintro e y ⟨rfl, hb⟩
            have HZ := Lib.hid (HB_2.out.trans ((BV2.out.trans (hb.mono BV2.out.size)).mono HB_2.out.size))
            clear hb
            go_wp2_with fail
            go_ret
            exact ⟨rfl, HZ.out⟩
  · go_wp2_with fail
    try rw [HW2.out]
    refine (mod_any at0 600 HAT.out (by omega) (by omega) _).mono ?_
    rintro e w4 ⟨rfl, rfl⟩
    rw [HTZ.out]
    go_wp2_with fail
    have B0 := Lib.hid (Below.refl w2.heap.size w2)
    go_loopw [13, 15] (fun s13 s15 wx => ∃ k : Nat, s15 = .int .i64 k ∧ s13 = .int .i64 (topK D k) ∧ k ≤ T + 1 ∧ Hid (Below w2.heap.size w2 wx)) (fun _ s15 _ => T + 1 - (intOf s15).toNat)
    case atStart => exact ⟨0, by go_num, rfl, by omega, B0⟩
    case round =>
      obtain ⟨k, rfl, rfl, hk, HBk⟩ := hrel
      obtain ⟨wk, rfl⟩ : ∃ u : World, u = wr := ⟨_, rfl⟩
      by_cases hlt : k ≤ T
      · have hlti : (k : Int) ≤ (T : Int) := by omega
        obtain ⟨x, hx⟩ : ∃ x, D k = x := ⟨_, rfl⟩
        obtain ⟨y, hy⟩ : ∃ y, topK D k = y := ⟨_, rfl⟩
        have HX := Lib.hid (show encF (eDif zf pf jf zg pg jg) k = x by rw [HD.out]; exact hx)
        have hnx : topK D (k + 1) = max y x := by rw [← hx, ← hy]; rfl
        rw [hy]
        obtain ⟨c0, c1', c2', c3', c4', c5'⟩ := (Xf_2.out.under HBk.out).box
        obtain ⟨d0, d1, d2, d3, d4, d5⟩ := (Xg_2.out.under HBk.out).box
        have HNX := Lib.hid hnx
        clear hx hy hnx
        go_wp2_with fail
        clear c0 c1' c2' c3' c4' c5' d0 d1 d2 d3 d4 d5
        with_reducible refine (ldif_any af nf capf zf pf jf OF.out.good ag ng capg zg pg jg OG.out.good _ k rfl (by omega) x HX.out _ (Xf_2.out.under HBk.out).row (Xg_2.out.under HBk.out).row).mono ?_
        rintro e w5 ⟨rfl, hb⟩
        have HB5 := Lib.hid (HBk.out.trans (hb.mono HBk.out.size))
        clear hb
        by_cases hxy : y < x
        · have hm : max y x = x := by omega
          have HMM := Lib.hid (HNX.out.trans hm)
          clear hm
          go_wp2_with fail
          go_roundw
          case rel => exact ⟨k + 1, by go_num, by rw [HMM.out], by omega, HB5⟩
          case measure => simp [intOf]; omega
        · have hm : max y x = y := by omega
          have HMM := Lib.hid (HNX.out.trans hm)
          clear hm
          go_wp2_with fail
          go_roundw
          case rel =>
            refine ⟨k + 1, by go_num, ?_, by omega, HB5⟩
            rw [HMM.out]
            all_goals (congr 1; split <;> omega)
          case measure => simp [intOf]; omega
      · obtain rfl : k = T + 1 := by omega
        rw [HVM.out.1]
        have hlti : ¬ ((T : Int) + 1) ≤ (T : Int) := by omega
        go_wp2_with fail
        go_loopw [14, 16] (fun s14 s16 wx => ∃ k : Nat, s16 = .int .i64 ((T : Int) + (k : Int)) ∧ s14 = .int .i64 (lowK D T k) ∧ k ≤ 4000 ∧ Hid (Below w2.heap.size w2 wx)) (fun _ s16 _ => T + 4000 - (intOf s16).toNat)
        case atStart => exact ⟨0, by go_num, rfl, by omega, HBk⟩
        case round =>
          obtain ⟨k, rfl, rfl, hk, HBl⟩ := hrel
          obtain ⟨wl, rfl⟩ : ∃ u : World, u = wr := ⟨_, rfl⟩
          by_cases hlt : k < 4000
          · have hlti : (T : Int) + (k : Int) < (T : Int) + 4000 := by omega
            obtain ⟨x, hx⟩ : ∃ x, D (T + k) = x := ⟨_, rfl⟩
            obtain ⟨y, hy⟩ : ∃ y, lowK D T k = y := ⟨_, rfl⟩
            have HX := Lib.hid (show encF (eDif zf pf jf zg pg jg) (T + k) = x by rw [HD.out]; exact hx)
            have hnx : lowK D T (k + 1) = min y x := by rw [← hx, ← hy]; rfl
            rw [hy]
            obtain ⟨c0, c1', c2', c3', c4', c5'⟩ := (Xf_2.out.under HBl.out).box
            obtain ⟨d0, d1, d2, d3, d4, d5⟩ := (Xg_2.out.under HBl.out).box
            have HNX := Lib.hid hnx
            clear hx hy hnx
            go_wp2_with fail
            clear c0 c1' c2' c3' c4' c5' d0 d1 d2 d3 d4 d5
            with_reducible refine (ldif_any af nf capf zf pf jf OF.out.good ag ng capg zg pg jg OG.out.good _ (T + k) (by omega) (by omega) x HX.out _ (Xf_2.out.under HBl.out).row (Xg_2.out.under HBl.out).row).mono ?_
            rintro e w5 ⟨rfl, hb⟩
            have HB5 := Lib.hid (HBl.out.trans (hb.mono HBl.out.size))
            clear hb
            by_cases hxy : y < x
            · have hm : min y x = y := by omega
              have HMM := Lib.hid (HNX.out.trans hm)
              clear hm
              go_wp2_with fail
              go_roundw
              case rel => exact ⟨k + 1, by go_num, by rw [HMM.out], by omega, HB5⟩
              case measure => simp [intOf]; omega
            · have hm : min y x = x := by omega
              have HMM := Lib.hid (HNX.out.trans hm)
              clear hm
              go_wp2_with fail
              go_roundw
              case rel =>
                refine ⟨k + 1, by go_num, ?_, by omega, HB5⟩
                rw [HMM.out]
                all_goals (congr 1; split <;> omega)
              case measure => simp [intOf]; omega
          · obtain rfl : k = 4000 := by omega
            rw [HVL.out.1]
            have BV0 := HBl
            obtain ⟨c0, c1', c2', c3', c4', c5'⟩ := (Xr_2.out.under BV0.out).box
            go_wp2_with fail
            clear c0 c1' c2' c3' c4' c5'
            with_reducible refine (value_mx HM1.out T (by omega) 0 (if_neg (by decide)).symm 1 (by decide) _ (Xr_2.out.under BV0.out).row).mono ?_
            rintro e wv1 ⟨rfl, hb⟩
            obtain ⟨wn1, rfl⟩ : ∃ u : World, u = wv1 := ⟨_, rfl⟩
            have BV1 := Lib.hid (BV0.out.trans (hb.mono BV0.out.size))
            clear hb
            obtain ⟨c0, c1', c2', c3', c4', c5'⟩ := (Xa_2.out.under BV1.out).box
            go_wp2_with fail
            clear c0 c1' c2' c3' c4' c5'
            with_reducible refine (value_mx HM2.out T (by omega) vl (by rw [if_pos rfl]; exact HVL.out.2.symm) 0 (by decide) _ (Xa_2.out.under BV1.out).row).mono ?_
            rintro e wv2 ⟨rfl, hb⟩
            obtain ⟨wn2, rfl⟩ : ∃ u : World, u = wv2 := ⟨_, rfl⟩
            have BV2 := Lib.hid (BV1.out.trans (hb.mono BV1.out.size))
            clear hb
            go_wp2_with fail
            refine (awake6 _).mono ?_
            rintro e y ⟨rfl, hb⟩
            have HZ := Lib.hid (HB_2.out.trans ((BV2.out.trans (hb.mono BV2.out.size)).mono HB_2.out.size))
            clear hb
            go_wp2_with fail
            go_ret
            exact ⟨rfl, HZ.out⟩
  · go_wp2_with fail
    try rw [HW2.out]
    refine (mod_any at0 600 HAT.out (by omega) (by omega) _).mono ?_
    rintro e w4 ⟨rfl, rfl⟩
    rw [HTZ.out]
    go_wp2_with fail
    have B0 := Lib.hid (Below.refl w2.heap.size w2)
    go_loopw [13, 15] (fun s13 s15 wx => ∃ k : Nat, s15 = .int .i64 k ∧ s13 = .int .i64 (topK D k) ∧ k ≤ T + 1 ∧ Hid (Below w2.heap.size w2 wx)) (fun _ s15 _ => T + 1 - (intOf s15).toNat)
    case atStart => exact ⟨0, by go_num, rfl, by omega, B0⟩
    case round =>
      obtain ⟨k, rfl, rfl, hk, HBk⟩ := hrel
      obtain ⟨wk, rfl⟩ : ∃ u : World, u = wr := ⟨_, rfl⟩
      by_cases hlt : k ≤ T
      · have hlti : (k : Int) ≤ (T : Int) := by omega
        obtain ⟨x, hx⟩ : ∃ x, D k = x := ⟨_, rfl⟩
        obtain ⟨y, hy⟩ : ∃ y, topK D k = y := ⟨_, rfl⟩
        have HX := Lib.hid (show encF (eDif zf pf jf zg pg jg) k = x by rw [HD.out]; exact hx)
        have hnx : topK D (k + 1) = max y x := by rw [← hx, ← hy]; rfl
        rw [hy]
        obtain ⟨c0, c1', c2', c3', c4', c5'⟩ := (Xf_2.out.under HBk.out).box
        obtain ⟨d0, d1, d2, d3, d4, d5⟩ := (Xg_2.out.under HBk.out).box
        have HNX := Lib.hid hnx
        clear hx hy hnx
        go_wp2_with fail
        clear c0 c1' c2' c3' c4' c5' d0 d1 d2 d3 d4 d5
        with_reducible refine (ldif_any af nf capf zf pf jf OF.out.good ag ng capg zg pg jg OG.out.good _ k rfl (by omega) x HX.out _ (Xf_2.out.under HBk.out).row (Xg_2.out.under HBk.out).row).mono ?_
        rintro e w5 ⟨rfl, hb⟩
        have HB5 := Lib.hid (HBk.out.trans (hb.mono HBk.out.size))
        clear hb
        by_cases hxy : y < x
        · have hm : max y x = x := by omega
          have HMM := Lib.hid (HNX.out.trans hm)
          clear hm
          go_wp2_with fail
          go_roundw
          case rel => exact ⟨k + 1, by go_num, by rw [HMM.out], by omega, HB5⟩
          case measure => simp [intOf]; omega
        · have hm : max y x = y := by omega
          have HMM := Lib.hid (HNX.out.trans hm)
          clear hm
          go_wp2_with fail
          go_roundw
          case rel =>
            refine ⟨k + 1, by go_num, ?_, by omega, HB5⟩
            rw [HMM.out]
            all_goals (congr 1; split <;> omega)
          case measure => simp [intOf]; omega
      · obtain rfl : k = T + 1 := by omega
        rw [HVM.out.1]
        have hlti : ¬ ((T : Int) + 1) ≤ (T : Int) := by omega
        go_wp2_with fail
        go_loopw [14, 16] (fun s14 s16 wx => ∃ k : Nat, s16 = .int .i64 ((T : Int) + (k : Int)) ∧ s14 = .int .i64 (lowK D T k) ∧ k ≤ 4000 ∧ Hid (Below w2.heap.size w2 wx)) (fun _ s16 _ => T + 4000 - (intOf s16).toNat)
        case atStart => exact ⟨0, by go_num, rfl, by omega, HBk⟩
        case round =>
          obtain ⟨k, rfl, rfl, hk, HBl⟩ := hrel
          obtain ⟨wl, rfl⟩ : ∃ u : World, u = wr := ⟨_, rfl⟩
          by_cases hlt : k < 4000
          · have hlti : (T : Int) + (k : Int) < (T : Int) + 4000 := by omega
            obtain ⟨x, hx⟩ : ∃ x, D (T + k) = x := ⟨_, rfl⟩
            obtain ⟨y, hy⟩ : ∃ y, lowK D T k = y := ⟨_, rfl⟩
            have HX := Lib.hid (show encF (eDif zf pf jf zg pg jg) (T + k) = x by rw [HD.out]; exact hx)
            have hnx : lowK D T (k + 1) = min y x := by rw [← hx, ← hy]; rfl
            rw [hy]
            obtain ⟨c0, c1', c2', c3', c4', c5'⟩ := (Xf_2.out.under HBl.out).box
            obtain ⟨d0, d1, d2, d3, d4, d5⟩ := (Xg_2.out.under HBl.out).box
            have HNX := Lib.hid hnx
            clear hx hy hnx
            go_wp2_with fail
            clear c0 c1' c2' c3' c4' c5' d0 d1 d2 d3 d4 d5
            with_reducible refine (ldif_any af nf capf zf pf jf OF.out.good ag ng capg zg pg jg OG.out.good _ (T + k) (by omega) (by omega) x HX.out _ (Xf_2.out.under HBl.out).row (Xg_2.out.under HBl.out).row).mono ?_
            rintro e w5 ⟨rfl, hb⟩
            have HB5 := Lib.hid (HBl.out.trans (hb.mono HBl.out.size))
            clear hb
            by_cases hxy : y < x
            · have hm : min y x = y := by omega
              have HMM := Lib.hid (HNX.out.trans hm)
              clear hm
              go_wp2_with fail
              go_roundw
              case rel => exact ⟨k + 1, by go_num, by rw [HMM.out], by omega, HB5⟩
              case measure => simp [intOf]; omega
            · have hm : min y x = x := by omega
              have HMM := Lib.hid (HNX.out.trans hm)
              clear hm
              go_wp2_with fail
              go_roundw
              case rel =>
                refine ⟨k + 1, by go_num, ?_, by omega, HB5⟩
                rw [HMM.out]
                all_goals (congr 1; split <;> omega)
              case measure => simp [intOf]; omega
          · obtain rfl : k = 4000 := by omega
            rw [HVL.out.1]
            have BV0 := HBl
            obtain ⟨c0, c1', c2', c3', c4', c5'⟩ := (Xr_2.out.under BV0.out).box
            go_wp2_with fail
            clear c0 c1' c2' c3' c4' c5'
            with_reducible refine (value_mx HM1.out T (by omega) 0 (if_neg (by decide)).symm 1 (by decide) _ (Xr_2.out.under BV0.out).row).mono ?_
            rintro e wv1 ⟨rfl, hb⟩
            obtain ⟨wn1, rfl⟩ : ∃ u : World, u = wv1 := ⟨_, rfl⟩
            have BV1 := Lib.hid (BV0.out.trans (hb.mono BV0.out.size))
            clear hb
            obtain ⟨c0, c1', c2', c3', c4', c5'⟩ := (Xa_2.out.under BV1.out).box
            go_wp2_with fail
            clear c0 c1' c2' c3' c4' c5'
            with_reducible refine (value_mx HM2.out T (by omega) 0 (if_neg (by decide)).symm 1 (by decide) _ (Xa_2.out.under BV1.out).row).mono ?_
            rintro e wv2 ⟨rfl, hb⟩
            obtain ⟨wn2, rfl⟩ : ∃ u : World, u = wv2 := ⟨_, rfl⟩
            have BV2 := Lib.hid (BV1.out.trans (hb.mono BV1.out.size))
            clear hb
            go_wp2_with fail
            refine (awake6 _).mono ?_
            rintro e y ⟨rfl, hb⟩
            have HZ := Lib.hid (HB_2.out.trans ((BV2.out.trans (hb.mono BV2.out.size)).mono HB_2.out.size))
            clear hb
            go_wp2_with fail
            go_ret
            exact ⟨rfl, HZ.out⟩

end Go.Proofs.Ytknimlpdpgpliaa
