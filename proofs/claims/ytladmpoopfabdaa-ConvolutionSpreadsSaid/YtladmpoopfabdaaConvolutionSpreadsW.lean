/- The walk of ConvolutionSpreads, and the mathematics: the convolution spreads over the minimum and over a delay. By the verifier's side. -/
import Derived.Test.YtladmpoopfabdaaConER
import Derived.Test.YtladmpoopfabdaaZero
namespace Go.Proofs.Ytladmpoopfabdaa
open Go.RowKit
set_option linter.unusedSimpArgs false
set_option linter.unusedVariables false

def laterF (d : Nat) (E : Nat → Option Int) (t : Nat) : Option Int := if t < d then some 0 else E (t - d)
theorem eLater_F (d : Nat) (zs : List Int) (p : Nat) (inc : Int) : eLater d zs p inc = laterF d (eC zs p inc) := funext fun t => rfl

theorem oconv_omin (f g h : Nat → Option Int) : oconv f (fun t => omin (g t) (h t)) = fun t => omin (oconv f g t) (oconv f h t) := by
  refine funext fun t => ole_anti ?_ (oconv_great fun s hs => ?_)
  · exact ole_omin_of (oconv_mono (fun t => ole_refl _) (fun t => ole_omin_l _ _) t) (oconv_mono (fun t => ole_refl _) (fun t => ole_omin_r _ _) t)
  · show ole _ (oadd (f s) (omin (g (t - s)) (h (t - s))))
    rcases omin_cases (g (t - s)) (h (t - s)) with e | e <;> rw [e]
    · exact ole_trans (ole_omin_l _ _) (oconv_le hs)
    · exact ole_trans (ole_omin_r _ _) (oconv_le hs)

theorem oconv_later {a b : Nat → Option Int} (d : Nat) (a0 : a 0 = some 0) (b0 : b 0 = some 0) (hb : ∀ t x, b t = some x → 0 ≤ x) (hm : ∀ t k, ole (b t) (b (t + k))) : oconv (laterF d a) b = laterF d (oconv a b) := by
  refine funext fun t => ?_
  by_cases ht : t < d
  · have e : laterF d (oconv a b) t = some 0 := if_pos ht
    rw [e]
    refine ole_anti ?_ (oconv_great fun s hs => ?_)
    · have k := oconv_le (a := laterF d a) (b := b) (Nat.le_refl t)
      rw [show laterF d a t = some 0 from if_pos ht, Nat.sub_self, b0] at k
      exact k
    · rw [show laterF d a s = some 0 from if_pos (by omega)]
      intro y hy
      obtain ⟨x, z, hx, hz, rfl⟩ := both_some hy
      cases hx
      exact ⟨0, rfl, by have := hb _ z hz; omega⟩
  · have e : laterF d (oconv a b) t = oconv a b (t - d) := if_neg ht
    rw [e]
    refine ole_anti (oconv_great fun s hs => ?_) (oconv_great fun s hs => ?_)
    · have k := oconv_le (a := laterF d a) (b := b) (show s + d ≤ t by omega)
      rw [show laterF d a (s + d) = a s by unfold laterF; rw [if_neg (by omega), Nat.add_sub_cancel], show t - (s + d) = t - d - s by omega] at k
      exact k
    · by_cases h : s < d
      · rw [show laterF d a s = some 0 from if_pos h]
        have k := oconv_le (a := a) (b := b) (Nat.zero_le (t - d))
        rw [a0, Nat.sub_zero] at k
        refine ole_trans k (ole_oadd2 (ole_refl _) ?_)
        have := hm (t - d) (d - s)
        rwa [show t - d + (d - s) = t - s by omega] at this
      · rw [show laterF d a s = a (s - d) from if_neg h]
        have k := oconv_le (a := a) (b := b) (show s - d ≤ t - d by omega)
        rwa [show t - d - (s - d) = t - s by omega] at k

/-- Two finite curves that are 0 at the tick 0. -/
theorem conv_late0 {zf zg zl : List Int} {pf pg pl : Nat} {jf jg jl : Int} (gf : Good zf pf jf) (gg : Good zg pg jg) (hf : ¬ InfC zf) (hg : ¬ InfC zg) (f0 : zf.getD 0 0 = 0) (g0 : zg.getD 0 0 = 0) {d : Nat} (h : ∀ t, eC zl pl jl t = eLater d zf pf jf t) :
    eConv zl pl jl zg pg jg = laterF d (eConv zf pf jf zg pg jg) := by
  have a1 := gf.p1; have a2 := gf.p3; have b1 := gg.p1; have b2 := gg.p3
  unfold eConv
  rw [funext h, eLater_F]
  refine oconv_later d ?_ ?_ (fun t x hx => ?_) (fun t k => ?_)
  · rw [eC_fin hf, atC_lt (by omega), f0]
  · rw [eC_fin hg, atC_lt (by omega), g0]
  · rw [eC_fin hg] at hx
    cases hx
    exact gg.nonneg t
  · rw [eC_fin hg, eC_fin hg]
    refine ole_some ?_
    induction k with
    | zero => exact Int.le_refl _
    | succ k ih => exact Int.le_trans ih (gg.step (t + k))

theorem later_per9 {zs : List Int} {p : Nat} {inc : Int} (g : Good zs p inc) (d : Nat) : ∃ s c, Per (encF (eLater d zs p inc)) s p c := ⟨zs.length - p + d, inc, fun t ht => by
  show enc (eLater d zs p inc (t + p)) = enc (eLater d zs p inc t) + inc
  rw [later_val g, later_val g, if_neg (by omega), if_neg (by omega), show t + p - d = t - d + p by omega]
  exact g.perAny (t - d) (by omega)⟩
theorem cof_small (a1 : Option Addr) (n1 cap1 : Nat) (z1 : List Int) (p1 : Nat) (i1 : Int) (g1 : Good z1 p1 i1) (h1 : p1 ≤ 10) (a2 : Option Addr) (n2 cap2 : Nat) (z2 : List Int) (p2 : Nat) (i2 : Int) (g2 : Good z2 p2 i2) (h2 : p2 ≤ 10)
    (w : World) (r1 : RowZ w a1 n1 cap1 z1) (r2 : RowZ w a2 n2 cap2 z2) : Calls Try.prog 22 #[curV a1 n1 cap1 p1 i1, curV a2 n2 cap2 p2 i2] w (GivesE (eConv z1 p1 i1 z2 p2 i2) w) := by
  obtain ⟨L, hL, hl⟩ := lcm_small g1 g2 h1 h2
  exact cof_ok a1 n1 cap1 z1 p1 i1 g1 a2 n2 cap2 z2 p2 i2 g2 L hl hL w r1 r2
theorem GivesE.any {E : Nat → Option Int} {w w' : World} {e : Ending} (h : GivesE E w e w') : ∃ (a : Option Addr) (n cap : Nat) (p inc c : Int), e = .returned (.tuple #[curV a n cap p inc, .int .i64 c]) ∧ Below w.heap.size w w' := by
  obtain ⟨hb, ⟨a, n, cap, zs, p, inc, he, hr, hf, hx⟩ | ⟨he, _⟩⟩ := h
  · exact ⟨a, n, cap, p, inc, 0, he, hb⟩
  · exact ⟨none, 0, 0, 0, 0, 3, he, hb⟩
theorem Bx.lay {u : World} {F : Nat} {x0 x1 x2 : Value} {a2 : Option Addr} {n2 cap2 q : Nat} {jnc : Int} {ys : List Int} (h : Cur3 u F x0 x1 x2) (hr : RowZ u a2 n2 cap2 ys) (hx : ∀ x, a2 = some x → 1 ≤ n2 → x.block ≠ F) : Bx (((u.setCell ⟨F, 0, none⟩ (.slice a2 n2 cap2)).setCell ⟨F, 1, none⟩ (.int .i64 q)).setCell ⟨F, 2, none⟩ (.int .i64 jnc)) F a2 n2 cap2 q jnc ys :=
  ⟨h.set _ _ _, ((hr.store hx _ _).store hx _ _).store hx _ _⟩

set_option maxRecDepth 100000 in
set_option maxHeartbeats 6400000 in
theorem convolutionSpreads_walk (W : World) (a : Option Addr) (n cap : Nat) (hrow : RowAt W a n cap) :
    Calls Try.prog 6 #[.slice a n cap] W fun e w' => e = .returned (.bool true) ∧ Below W.heap.size W w' := by
  have HR := Lib.hid hrow
  clear hrow
  go_enter Try.func6, Try.ntmps6
  go_wp2_with fail
  refine (new_any a n cap _ HR.out).mono ?_
  rintro e u1 ⟨rfl, hb1, hz1, ra, rn, rc, hs1⟩
  have HB1 := Lib.hid hb1
  have HS1 := Lib.hid hs1
  have Z1 := Lib.hid hz1
  clear hb1 hz1 hs1
  go_wp2_with fail
  refine (curve_any 4 (by omega) (by omega) _ ra rn rc _ HS1.out).mono ?_
  rintro e u2 ⟨af, nf, capf, zf, pf, jf, rfl, hs2, he2, hr2, ok2, hx2⟩
  have OF := Lib.hid ok2
  have HS2 := Lib.hid hs2
  have R2 := Lib.hid hr2
  have X2 := Lib.hid (show ∀ x, af = some x → ¬ x.block = W.heap.size from fun x hx => by have := hx2 x hx; have := Z1.out; omega)
  have HB2 := Lib.hid (HB1.out.trans (he2.below (Nat.le_refl _) HB1.out.size))
  clear hs2 he2 hr2 ok2 hx2
  go_wp2_with fail
  refine (curve_any 4 (by omega) (by omega) _ ra rn rc _ HS2.out).mono ?_
  rintro e u3 ⟨ag, ng, capg, zg, pg, jg, rfl, hs3, he3, hr3, ok3, hx3⟩
  have OG := Lib.hid ok3
  have HS3 := Lib.hid hs3
  have R3 := Lib.hid hr3
  have R23 := Lib.hid (R2.out.apart he3 X2.out)
  have h9 : W.heap.size < u2.heap.size := lt_of_cell (src_cell HS2.out)
  have X3 := Lib.hid (show ∀ x, ag = some x → ¬ x.block = W.heap.size from fun x hx => by have := hx3 x hx; omega)
  have HB3 := Lib.hid (HB2.out.trans (he3.below (Nat.le_refl _) HB2.out.size))
  clear hs3 he3 hr3 ok3 hx3 h9
  go_wp2_with fail
  refine (curve_any 4 (by omega) (by omega) _ ra rn rc _ HS3.out).mono ?_
  rintro e u4 ⟨ad, nd, capd, zd, pd, jd, rfl, hs4, he4, hr4, ok4, hx4⟩
  have OD := Lib.hid ok4
  have HS4 := Lib.hid hs4
  have R4 := Lib.hid hr4
  have R34 := Lib.hid (R3.out.apart he4 X3.out)
  have R24 := Lib.hid (R23.out.apart he4 X2.out)
  have HB4 := Lib.hid (HB3.out.trans (he4.below (Nat.le_refl _) HB3.out.size))
  clear hs4 he4 hr4 ok4 hx4
  obtain ⟨w0, hw⟩ : ∃ W, ((u4.alloc (.cells #[.slice af nf capf, .int .i64 pf, .int .i64 jf] 24)).alloc (.cells #[.slice ag ng capg, .int .i64 pg, .int .i64 jg] 24)).alloc (.cells #[.slice ad nd capd, .int .i64 pd, .int .i64 jd] 24) = W := ⟨_, rfl⟩
  have hz : Below u4.heap.size u4 w0 := by rw [← hw]; exact ((below_box _).alloc (by simp) _).alloc (by simp; omega) _
  have Xf := Lib.hid (show Bx w0 u4.heap.size af nf capf pf jf zf by rw [← hw]; exact ((Bx.new R24.out).under (below_box _)).under (below_box _))
  have Xg := Lib.hid (show Bx w0 (u4.heap.size + 1) ag ng capg pg jg zg by
    rw [← hw]
    have := (Bx.new (p := pg) (inc := jg) (R34.out.alloc (.cells #[.slice af nf capf, .int .i64 pf, .int .i64 jf] 24))).under (below_box (.cells #[.slice ad nd capd, .int .i64 pd, .int .i64 jd] 24))
    rwa [show (u4.alloc (.cells #[.slice af nf capf, .int .i64 pf, .int .i64 jf] 24)).heap.size = u4.heap.size + 1 by simp] at this)
  have Xd := Lib.hid (show Bx w0 (u4.heap.size + 2) ad nd capd pd jd zd by
    rw [← hw]
    have := Bx.new (p := pd) (inc := jd) ((R4.out.alloc (.cells #[.slice af nf capf, .int .i64 pf, .int .i64 jf] 24)).alloc (.cells #[.slice ag ng capg, .int .i64 pg, .int .i64 jg] 24))
    rwa [show ((u4.alloc (.cells #[.slice af nf capf, .int .i64 pf, .int .i64 jf] 24)).alloc (.cells #[.slice ag ng capg, .int .i64 pg, .int .i64 jg] 24)).heap.size = u4.heap.size + 2 by simp] at this)
  have HB5 := Lib.hid (HB4.out.trans (hz.mono HB4.out.size))
  have SR0 := Lib.hid (src_under HS4.out hz)
  have SW := Lib.hid (show W.heap.size < u4.heap.size ∧ u4.heap.size + 3 ≤ w0.heap.size from ⟨lt_of_cell (src_cell HS4.out), by rw [← hw]; simp⟩)
  have DF := Lib.hid (show Day (eC zf pf jf) ∧ Day (eC zg pg jg) ∧ Day (eC zd pd jd) from ⟨(drawn_nice OF.out (by omega)).day, (drawn_nice OG.out (by omega)).day, (drawn_nice OD.out (by omega)).day⟩)
  have hw0 := hw
  clear hw hz
  have GF := Lib.hid (And.intro OF.out.good (And.intro OG.out.good OD.out.good))
  have HU := Lib.hid (Below.refl w0.heap.size w0)
  by_cases hm : ECan (eMin zg pg jg zd pd jd)
  · have HM := Lib.hid hm
    clear hm
    obtain ⟨c0, c1, c2, c3, c4, c5⟩ := Xg.out.box
    obtain ⟨d0, d1, d2, d3, d4, d5⟩ := Xd.out.box
    go_wp2_with fail
    try rw [hw0]
    clear hw0
    clear c0 c1 c2 c3 c4 c5 d0 d1 d2 d3 d4 d5
    with_reducible refine ((rmin_day7 ag ng capg zg pg jg GF.out.2.1 ad nd capd zd pd jd GF.out.2.2 DF.out.2.1 DF.out.2.2 _ Xg.out.row Xd.out.row).mono fun _ _ h => h.ok HM.out).mono ?_
    rintro e v1 ⟨a1, n1, cap1, z1, p1, i1, rfl, hb, hr, hf, hx⟩
    obtain ⟨w1, hw⟩ : ∃ W, v1.alloc (.cells #[.slice a1 n1 cap1, .int .i64 p1, .int .i64 i1] 24) = W := ⟨_, rfl⟩
    have hz : Below w0.heap.size w0 w1 := by rw [← hw]; exact hb.trans ((below_box _).mono hb.size)
    have Xf_1 := Lib.hid (Xf.out.under hz)
    have Xg_1 := Lib.hid (Xg.out.under hz)
    have Xh_1 := Lib.hid (Xd.out.under hz)
    have HB_1 := Lib.hid (HU.out.trans (hz.mono HU.out.size))
    have Xm_1 := Lib.hid (show Bx w1 v1.heap.size a1 n1 cap1 p1 i1 z1 by rw [← hw]; exact Bx.new hr)
    have HFm := Lib.hid hf
    have hw1 := hw
    have SZ1 := Lib.hid (show v1.heap.size < w1.heap.size ∧ w0.heap.size ≤ v1.heap.size from ⟨by rw [← hw]; simp, hb.size⟩)
    have RF1 := Lib.hid (And.intro hr.far hx)
    clear hb hr hf hx hz hw
    by_cases ha : ECan (eConv zf pf jf zg pg jg)
    · have HA := Lib.hid ha
      clear ha
      obtain ⟨c0, c1, c2, c3, c4, c5⟩ := Xf_1.out.box
      obtain ⟨d0, d1, d2, d3, d4, d5⟩ := Xg_1.out.box
      go_wp2_with fail
      try rw [hw1]
      clear hw1
      clear c0 c1 c2 c3 c4 c5 d0 d1 d2 d3 d4 d5
      with_reducible refine ((cof_day af nf capf zf pf jf GF.out.1 ag ng capg zg pg jg GF.out.2.1 DF.out.1 DF.out.2.1 _ Xf_1.out.row Xg_1.out.row).mono fun _ _ h => h.ok HA.out).mono ?_
      rintro e v2 ⟨a2, n2, cap2, z2, p2, i2, rfl, hb, hr, hf, hx⟩
      obtain ⟨w2, hw⟩ : ∃ W, v2.alloc (.cells #[.slice a2 n2 cap2, .int .i64 p2, .int .i64 i2] 24) = W := ⟨_, rfl⟩
      have hz : Below w1.heap.size w1 w2 := by rw [← hw]; exact hb.trans ((below_box _).mono hb.size)
      have Xf_2 := Lib.hid (Xf_1.out.under hz)
      have Xg_2 := Lib.hid (Xg_1.out.under hz)
      have Xh_2 := Lib.hid (Xh_1.out.under hz)
      have Xm_2 := Lib.hid (Xm_1.out.under hz)
      have HB_2 := Lib.hid (HB_1.out.trans (hz.mono HB_1.out.size))
      have Xa_2 := Lib.hid (show Bx w2 v2.heap.size a2 n2 cap2 p2 i2 z2 by rw [← hw]; exact Bx.new hr)
      have HFa := Lib.hid hf
      have hw2 := hw
      have SZ2 := Lib.hid (show v2.heap.size < w2.heap.size ∧ w1.heap.size ≤ v2.heap.size from ⟨by rw [← hw]; simp, hb.size⟩)
      have RF2 := Lib.hid (And.intro hr.far hx)
      clear hb hr hf hx hz hw
      by_cases hb : ECan (eConv zf pf jf zd pd jd)
      · have HBC := Lib.hid hb
        clear hb
        obtain ⟨c0, c1, c2, c3, c4, c5⟩ := Xf_2.out.box
        obtain ⟨d0, d1, d2, d3, d4, d5⟩ := Xh_2.out.box
        go_wp2_with fail
        try rw [hw2]
        clear hw2
        clear c0 c1 c2 c3 c4 c5 d0 d1 d2 d3 d4 d5
        with_reducible refine ((cof_day af nf capf zf pf jf GF.out.1 ad nd capd zd pd jd GF.out.2.2 DF.out.1 DF.out.2.2 _ Xf_2.out.row Xh_2.out.row).mono fun _ _ h => h.ok HBC.out).mono ?_
        rintro e v3 ⟨a3, n3, cap3, z3, p3, i3, rfl, hb, hr, hf, hx⟩
        obtain ⟨w3, hw⟩ : ∃ W, v3.alloc (.cells #[.slice a3 n3 cap3, .int .i64 p3, .int .i64 i3] 24) = W := ⟨_, rfl⟩
        have hz : Below w2.heap.size w2 w3 := by rw [← hw]; exact hb.trans ((below_box _).mono hb.size)
        have Xf_3 := Lib.hid (Xf_2.out.under hz)
        have Xg_3 := Lib.hid (Xg_2.out.under hz)
        have Xh_3 := Lib.hid (Xh_2.out.under hz)
        have Xm_3 := Lib.hid (Xm_2.out.under hz)
        have Xa_3 := Lib.hid (Xa_2.out.under hz)
        have HB_3 := Lib.hid (HB_2.out.trans (hz.mono HB_2.out.size))
        have Xb_3 := Lib.hid (show Bx w3 v3.heap.size a3 n3 cap3 p3 i3 z3 by rw [← hw]; exact Bx.new hr)
        have HFb := Lib.hid hf
        have hw3 := hw
        have SZ3 := Lib.hid (show v3.heap.size < w3.heap.size ∧ w2.heap.size ≤ v3.heap.size from ⟨by rw [← hw]; simp, hb.size⟩)
        have RF3 := Lib.hid (And.intro hr.far hx)
        clear hb hr hf hx hz hw
        have DM := Lib.hid (show Day (eC z1 p1 i1) from (DF.out.2.1.min DF.out.2.2).of HFm.out.val)
        have DA := Lib.hid (show Day (eC z2 p2 i2) from (conv_day GF.out.1 GF.out.2.1 DF.out.1 DF.out.2.1).of HFa.out.val)
        have DB := Lib.hid (show Day (eC z3 p3 i3) from (conv_day GF.out.1 GF.out.2.2 DF.out.1 DF.out.2.2).of HFb.out.val)
        have EXY := Lib.hid (show eConv zf pf jf z1 p1 i1 = eMin z2 p2 i2 z3 p3 i3 by
          have e1 : eConv zf pf jf z1 p1 i1 = oconv (eC zf pf jf) (fun t => omin (eC zg pg jg t) (eC zd pd jd t)) := by unfold eConv; rw [funext HFm.out.val]; rfl
          rw [e1, oconv_omin]
          refine funext fun t => ?_
          show _ = omin (eC z2 p2 i2 t) (eC z3 p3 i3 t)
          rw [HFa.out.val, HFb.out.val]; rfl)
        by_cases hx : ECan (eConv zf pf jf z1 p1 i1)
        · have HX := Lib.hid hx
          clear hx
          obtain ⟨c0, c1, c2, c3, c4, c5⟩ := Xf_3.out.box
          obtain ⟨d0, d1, d2, d3, d4, d5⟩ := Xm_3.out.box
          go_wp2_with fail
          try rw [hw3]
          clear hw3
          clear c0 c1 c2 c3 c4 c5 d0 d1 d2 d3 d4 d5
          with_reducible refine ((cof_day af nf capf zf pf jf GF.out.1 a1 n1 cap1 z1 p1 i1 HFm.out.good DF.out.1 DM.out _ Xf_3.out.row Xm_3.out.row).mono fun _ _ h => h.ok HX.out).mono ?_
          rintro e v4 ⟨a4, n4, cap4, z4, p4, i4, rfl, hb, hr, hf, hx⟩
          obtain ⟨w4, hw⟩ : ∃ W, v4.alloc (.cells #[.slice a4 n4 cap4, .int .i64 p4, .int .i64 i4] 24) = W := ⟨_, rfl⟩
          have hz : Below w3.heap.size w3 w4 := by rw [← hw]; exact hb.trans ((below_box _).mono hb.size)
          have Xf_4 := Lib.hid (Xf_3.out.under hz)
          have Xg_4 := Lib.hid (Xg_3.out.under hz)
          have Xh_4 := Lib.hid (Xh_3.out.under hz)
          have Xm_4 := Lib.hid (Xm_3.out.under hz)
          have Xa_4 := Lib.hid (Xa_3.out.under hz)
          have Xb_4 := Lib.hid (Xb_3.out.under hz)
          have HB_4 := Lib.hid (HB_3.out.trans (hz.mono HB_3.out.size))
          have Xx_4 := Lib.hid (show Bx w4 v4.heap.size a4 n4 cap4 p4 i4 z4 by rw [← hw]; exact Bx.new hr)
          have HFx := Lib.hid hf
          have hw4 := hw
          have SZ4 := Lib.hid (show v4.heap.size < w4.heap.size ∧ w3.heap.size ≤ v4.heap.size from ⟨by rw [← hw]; simp, hb.size⟩)
          have RF4 := Lib.hid (And.intro hr.far hx)
          clear hb hr hf hx hz hw
          obtain ⟨c0, c1, c2, c3, c4, c5⟩ := Xa_4.out.box
          obtain ⟨d0, d1, d2, d3, d4, d5⟩ := Xb_4.out.box
          go_wp2_with fail
          try rw [hw4]
          clear hw4
          clear c0 c1 c2 c3 c4 c5 d0 d1 d2 d3 d4 d5
          with_reducible refine ((rmin_day7 a2 n2 cap2 z2 p2 i2 HFa.out.good a3 n3 cap3 z3 p3 i3 HFb.out.good DA.out DB.out _ Xa_4.out.row Xb_4.out.row).mono fun _ _ h => h.ok (by rw [← EXY.out]; exact HX.out)).mono ?_
          rintro e v5 ⟨a5, n5, cap5, z5, p5, i5, rfl, hb, hr, hf, hx⟩
          obtain ⟨w5, hw⟩ : ∃ W, v5.alloc (.cells #[.slice a5 n5 cap5, .int .i64 p5, .int .i64 i5] 24) = W := ⟨_, rfl⟩
          have hz : Below w4.heap.size w4 w5 := by rw [← hw]; exact hb.trans ((below_box _).mono hb.size)
          have Xf_5 := Lib.hid (Xf_4.out.under hz)
          have Xg_5 := Lib.hid (Xg_4.out.under hz)
          have Xh_5 := Lib.hid (Xh_4.out.under hz)
          have Xm_5 := Lib.hid (Xm_4.out.under hz)
          have Xa_5 := Lib.hid (Xa_4.out.under hz)
          have Xb_5 := Lib.hid (Xb_4.out.under hz)
          have Xx_5 := Lib.hid (Xx_4.out.under hz)
          have HB_5 := Lib.hid (HB_4.out.trans (hz.mono HB_4.out.size))
          have Xy_5 := Lib.hid (show Bx w5 v5.heap.size a5 n5 cap5 p5 i5 z5 by rw [← hw]; exact Bx.new hr)
          have HFy := Lib.hid hf
          have hw5 := hw
          have SZ5 := Lib.hid (show v5.heap.size < w5.heap.size ∧ w4.heap.size ≤ v5.heap.size from ⟨by rw [← hw]; simp, hb.size⟩)
          have RF5 := Lib.hid (And.intro hr.far hx)
          clear hb hr hf hx hz hw
          have HFy2 := Lib.hid (show EForm z5 p5 i5 (eConv zf pf jf z1 p1 i1) by rw [EXY.out]; exact HFy.out)
          obtain ⟨c0, c1, c2, c3, c4, c5⟩ := Xx_5.out.box
          obtain ⟨d0, d1, d2, d3, d4, d5⟩ := Xy_5.out.box
          go_wp2_with fail
          try rw [hw5]
          clear hw5
          clear c0 c1 c2 c3 c4 c5 d0 d1 d2 d3 d4 d5
          with_reducible refine (same_at HFx.out HFy2.out _ Xx_5.out.row Xy_5.out.row).mono ?_
          rintro e w6 ⟨rfl, hb⟩
          have Xf_6 := Lib.hid (Xf_5.out.under hb)
          have Xg_6 := Lib.hid (Xg_5.out.under hb)
          have Xh_6 := Lib.hid (Xh_5.out.under hb)
          have Xm_6 := Lib.hid (Xm_5.out.under hb)
          have Xa_6 := Lib.hid (Xa_5.out.under hb)
          have Xb_6 := Lib.hid (Xb_5.out.under hb)
          have Xx_6 := Lib.hid (Xx_5.out.under hb)
          have Xy_6 := Lib.hid (Xy_5.out.under hb)
          have HB_6 := Lib.hid (HB_5.out.trans (hb.mono HB_5.out.size))
          have SY6 := Lib.hid hb.size
          clear hb
          have Cf_7 := Lib.hid Xf_6.out.box
          have Cg_8 := Lib.hid Xg_6.out.box
          have Cb_9 := Lib.hid Xb_6.out.box
          go_wp2_with fail
          have HSA := Lib.hid (src_under SR0.out HB_6.out)
          have HBA := Lib.hid (HB5.out.trans (HB_6.out.mono HB5.out.size))
          have BLT := Lib.hid (show v3.heap.size < w6.heap.size ∧ w0.heap.size ≤ v3.heap.size from ⟨Cb_9.out.lt, by have q97 := SW.out; have q0 := SZ1.out; have q1 := SZ2.out; have q2 := SZ3.out; have q3 := SZ4.out; have q4 := SZ5.out; omega⟩)
          refine (n_any 12 (by omega) (by omega) _ ra rn rc _ HSA.out).mono ?_
          rintro e ub ⟨rd, ⟨rd0, rd1⟩, rfl, hsb, heb⟩
          have HSB := Lib.hid hsb
          have HBB := Lib.hid (HBA.out.trans (heb.below (Nat.le_refl _)))
          obtain ⟨d, rfl⟩ := Int.eq_ofNat_of_zero_le rd0
          have HD12 := Lib.hid (show d ≤ 12 by omega)
          have CF1 := Lib.hid (Cf_7.out.apart heb.apart (by have := SW.out; omega))
          have CG1 := Lib.hid (Cg_8.out.apart heb.apart (by have := SW.out; omega))
          have CB1 := Lib.hid (Cb_9.out.apart heb.apart (by have := SW.out; have := BLT.out; omega))
          have SZB := Lib.hid (show w6.heap.size ≤ ub.heap.size from heb.apart.size)
          clear hsb heb rd0 rd1
          go_wp2_with fail
          refine (zero_any 4 (by omega) (by omega) _ ra rn rc _ HSB.out).mono ?_
          rintro e uc ⟨ay, ny, capy, zy, py, jy, rfl, hsc, hec, hrc, gy, hfy, h0y, smy, hxy⟩
          have HSC := Lib.hid hsc
          have HBC := Lib.hid (HBB.out.trans (hec.below (Nat.le_refl _) HBB.out.size))
          have TY := Lib.hid (And.intro (tiny_of gy hfy smy.1 smy.2.1 smy.2.2.1 smy.2.2.2) (And.intro h0y smy.2.1))
          have RY := Lib.hid hrc
          have QY := Lib.hid hxy
          have CF2 := Lib.hid (CF1.out.apart hec (by have := SW.out; omega))
          have CG2 := Lib.hid (CG1.out.apart hec (by have := SW.out; omega))
          have CB2 := Lib.hid (CB1.out.apart hec (by have := SW.out; have := BLT.out; omega))
          have SZC := Lib.hid (show ub.heap.size ≤ uc.heap.size from hec.size)
          clear hsc hec hrc gy hfy h0y smy hxy
          go_wp2_with fail
          refine (zero_any 4 (by omega) (by omega) _ ra rn rc _ HSC.out).mono ?_
          rintro e ud ⟨az, nz, capz, zz, pz, jz, rfl, hsd, hed, hrd, gz, hfz, h0z, smz, hxz⟩
          have hbd := HBC.out.trans (hed.below (Nat.le_refl _) HBC.out.size)
          have TZ := Lib.hid (And.intro (tiny_of gz hfz smz.1 smz.2.1 smz.2.2.1 smz.2.2.2) (And.intro h0z smz.2.1))
          have QZ := Lib.hid hxz
          have hcf := CF2.out.apart hed (by have := SW.out; omega)
          have hcg := CG2.out.apart hed (by have := SW.out; omega)
          have hcb := CB2.out.apart hed (by have := SW.out; have := BLT.out; omega)
          have hry := RY.out.apart hed (fun x hx => by have q1 := QY.out x hx; have q2 := SW.out; have q3 := BLT.out; have q4 := SZB.out; omega)
          have hsz := hed.size
          obtain ⟨we, hw⟩ : ∃ W, ((((((ud.setCell ⟨u4.heap.size, 0, none⟩ (.slice ay ny capy)).setCell ⟨u4.heap.size, 1, none⟩ (.int .i64 py)).setCell ⟨u4.heap.size, 2, none⟩ (.int .i64 jy)).setCell ⟨u4.heap.size + 1, 0, none⟩ (.slice az nz capz)).setCell ⟨u4.heap.size + 1, 1, none⟩ (.int .i64 pz)).setCell ⟨u4.heap.size + 1, 2, none⟩ (.int .i64 jz)) = W := ⟨_, rfl⟩
          have NY := Lib.hid (show (∀ G, G < ub.heap.size → ∀ x, ay = some x → 1 ≤ ny → x.block ≠ G) ∧ ∀ G, G < uc.heap.size → ∀ x, az = some x → 1 ≤ nz → x.block ≠ G from ⟨fun G hG x hx _ => by have := QY.out x hx; omega, fun G hG x hx _ => by have := hxz x hx; omega⟩)
          have HLT := Lib.hid (show u4.heap.size + 1 < ub.heap.size ∧ u4.heap.size + 1 < uc.heap.size by have q1 := SW.out; have q2 := SZB.out; have q3 := SZC.out; have q4 := BLT.out; omega)
          have Xf_e := Lib.hid (show Bx we u4.heap.size ay ny capy py jy zy by rw [← hw]; exact (Bx.lay hcf hry (NY.out.1 _ (by have := HLT.out; omega))).set (by omega) (NY.out.1 _ (by have := HLT.out; omega)) _ _ _)
          have Xg_e := Lib.hid (show Bx we (u4.heap.size + 1) az nz capz pz jz zz by rw [← hw]; exact Bx.lay (((hcg.other (by omega) _ _).other (by omega) _ _).other (by omega) _ _) (((hrd.store (NY.out.2 _ (by have := HLT.out; omega)) _ _).store (NY.out.2 _ (by have := HLT.out; omega)) _ _).store (NY.out.2 _ (by have := HLT.out; omega)) _ _) (NY.out.2 _ (by have := HLT.out; omega)))
          have BNE := Lib.hid (show ¬ v3.heap.size = u4.heap.size ∧ ¬ v3.heap.size = u4.heap.size + 1 by have q1 := SW.out; have q2 := BLT.out; omega)
          have Cb_e := Lib.hid (show Cur3 we v3.heap.size _ _ _ by rw [← hw]; exact (((((hcb.other BNE.out.1 _ _).other BNE.out.1 _ _).other BNE.out.1 _ _).other BNE.out.2 _ _).other BNE.out.2 _ _).other BNE.out.2 _ _)
          have HB_e := Lib.hid (show Below W.heap.size W we by rw [← hw]; exact below_set3 (below_set3 hbd (by have := SW.out; omega) _ _ _) (by have := SW.out; omega) _ _ _)
          have SZE := Lib.hid (show v3.heap.size < we.heap.size ∧ we.heap.size = ud.heap.size ∧ uc.heap.size ≤ ud.heap.size from ⟨by have q1 := BLT.out; have q2 := SZB.out; have q3 := SZC.out; rw [← hw]; simp [World.setCell]; omega, by rw [← hw]; simp [World.setCell], hsz⟩)
          have FY := Lib.hid (show (∀ x, ay = some x → 1 ≤ ny → x.block < we.heap.size) ∧ ∀ x, ay = some x → ub.heap.size ≤ x.block from ⟨fun x hx hn => by have := hry.far x hx hn; have := SZE.out; omega, QY.out⟩)
          have FZ := Lib.hid (show (∀ x, az = some x → 1 ≤ nz → x.block < we.heap.size) ∧ ∀ x, az = some x → uc.heap.size ≤ x.block from ⟨fun x hx hn => by have := hrd.far x hx hn; have := SZE.out; omega, QZ.out⟩)
          obtain ⟨c0, c1, c2, c3, c4, c5⟩ := hcf
          obtain ⟨d0, d1, d2, d3, d4, d5⟩ := hcg
          have hw9 := hw
          clear hsd hed hrd gz hfz h0z smz hxz hbd hcb hry hsz hw
          go_upto_region 13 with fail
          try rw [hw9]
          clear hw9 c0 c1 c2 c3 c4 c5 d0 d1 d2 d3 d4 d5
          obtain ⟨c0, c1, c2, c3, c4, c5⟩ := Xf_e.out.box
          go_wp2_with fail
          clear c0 c1 c2 c3 c4 c5
          with_reducible refine ((rlater_ok ay ny capy zy py jy TY.out.1.good (d : Int) d rfl (by have := HD12.out; omega) _ Xf_e.out.row).mono fun _ _ h => h.ok (later_can TY.out.1 (by have := HD12.out; omega))).mono ?_
          rintro e v11 ⟨a11, n11, cap11, z11, p11, i11, rfl, hb, hr, hf, hx⟩
          obtain ⟨w11, hw⟩ : ∃ W, v11.alloc (.cells #[.slice a11 n11 cap11, .int .i64 p11, .int .i64 i11] 24) = W := ⟨_, rfl⟩
          have hz : Below we.heap.size we w11 := by rw [← hw]; exact hb.trans ((below_box _).mono hb.size)
          have Cb_11 := Lib.hid (Cb_e.out.below hz)
          have Xf_11 := Lib.hid (Xf_e.out.under hz)
          have Xg_11 := Lib.hid (Xg_e.out.under hz)
          have HB_11 := Lib.hid (HB_e.out.trans (hz.mono HB_e.out.size))
          have Xl_11 := Lib.hid (show Bx w11 v11.heap.size a11 n11 cap11 p11 i11 z11 by rw [← hw]; exact Bx.new hr)
          have HFl := Lib.hid hf
          have hw11 := hw
          have SZ11 := Lib.hid (show v11.heap.size < w11.heap.size ∧ we.heap.size ≤ v11.heap.size from ⟨by rw [← hw]; simp, hb.size⟩)
          have RF11 := Lib.hid (And.intro hr.far hx)
          clear hb hr hf hx hz hw
          have PL := Lib.hid (show p11 ≤ 8 by have q1 := eform_per TY.out.1.good (later_per9 TY.out.1.good d) HFl.out; have q2 := TY.out.2.2; omega)
          have EQ := Lib.hid (show eConv z11 p11 i11 zz pz jz = laterF d (eConv zy py jy zz pz jz) from conv_late0 TY.out.1.good TZ.out.1.good TY.out.1.fin TZ.out.1.fin TY.out.2.1 TZ.out.2.1 HFl.out.val)
          by_cases hj : ECan (eConv z11 p11 i11 zz pz jz)
          · have HJ := Lib.hid hj
            clear hj
            obtain ⟨c0, c1, c2, c3, c4, c5⟩ := Xl_11.out.box
            obtain ⟨d0, d1, d2, d3, d4, d5⟩ := Xg_11.out.box
            go_wp2_with fail
            try rw [hw11]
            clear hw11
            clear c0 c1 c2 c3 c4 c5 d0 d1 d2 d3 d4 d5
            with_reducible refine ((cof_small a11 n11 cap11 z11 p11 i11 HFl.out.good (by have := PL.out; omega) az nz capz zz pz jz TZ.out.1.good (by have := TZ.out.2.2; omega) _ Xl_11.out.row Xg_11.out.row).mono fun _ _ h => h.ok HJ.out).mono ?_
            rintro e v12 ⟨a12, n12, cap12, z12, p12, i12, rfl, hb, hr, hf, hx⟩
            have HFb2 := Lib.hid hf
            have RF12 := Lib.hid (And.intro hr.far hx)
            obtain ⟨w12, hw⟩ : ∃ W, (((v12.setCell ⟨v3.heap.size, 0, none⟩ (.slice a12 n12 cap12)).setCell ⟨v3.heap.size, 1, none⟩ (.int .i64 p12)).setCell ⟨v3.heap.size, 2, none⟩ (.int .i64 i12)) = W := ⟨_, rfl⟩
            have SZ12 := Lib.hid (show w12.heap.size = v12.heap.size ∧ w11.heap.size ≤ v12.heap.size from ⟨by rw [← hw]; simp [World.setCell], hb.size⟩)
            obtain ⟨y0, y1, y2, y3, y4, y5⟩ := Cb_11.out.below hb
            have Xf_12 := Lib.hid (show Bx w12 u4.heap.size ay ny capy py jy zy from by rw [← hw]; exact (Xf_11.out.under hb).set (by have q0 := SW.out; have q1 := BLT.out; have q2 := SZB.out; have q3 := SZC.out; have q4 := SZE.out; have q5 := SZ11.out; have q6 := SZ12.out; omega) (fun x hx9 hn9 => by have q98 := FY.out.1 x hx9 hn9; have q99 := FY.out.2 x hx9; have q0 := SW.out; have q1 := BLT.out; have q2 := SZB.out; have q3 := SZC.out; have q4 := SZE.out; have q5 := SZ11.out; have q6 := SZ12.out; omega) _ _ _)
            have Xg_12 := Lib.hid (show Bx w12 (u4.heap.size + 1) az nz capz pz jz zz from by rw [← hw]; exact (Xg_11.out.under hb).set (by have q0 := SW.out; have q1 := BLT.out; have q2 := SZB.out; have q3 := SZC.out; have q4 := SZE.out; have q5 := SZ11.out; have q6 := SZ12.out; omega) (fun x hx9 hn9 => by have q98 := FZ.out.1 x hx9 hn9; have q99 := FZ.out.2 x hx9; have q0 := SW.out; have q1 := BLT.out; have q2 := SZB.out; have q3 := SZC.out; have q4 := SZE.out; have q5 := SZ11.out; have q6 := SZ12.out; omega) _ _ _)
            have Xl_12 := Lib.hid (show Bx w12 v11.heap.size a11 n11 cap11 p11 i11 z11 from by rw [← hw]; exact (Xl_11.out.under hb).set (by have q0 := SW.out; have q1 := BLT.out; have q2 := SZB.out; have q3 := SZC.out; have q4 := SZE.out; have q5 := SZ11.out; have q6 := SZ12.out; omega) (fun x hx9 hn9 => by have q98 := RF11.out.1 x hx9 hn9; have q99 := RF11.out.2 x hx9; have q0 := SW.out; have q1 := BLT.out; have q2 := SZB.out; have q3 := SZC.out; have q4 := SZE.out; have q5 := SZ11.out; have q6 := SZ12.out; omega) _ _ _)
            have Xb_12 := Lib.hid (show Bx w12 v3.heap.size a12 n12 cap12 p12 i12 z12 by rw [← hw]; exact Bx.lay (Cb_11.out.below hb) hr (fun x hx9 hn9 => by have q99 := RF12.out.2 x hx9; have q0 := SW.out; have q1 := BLT.out; have q2 := SZB.out; have q3 := SZC.out; have q4 := SZE.out; have q5 := SZ11.out; have q6 := SZ12.out; omega))
            have HB_12 := Lib.hid (show Below W.heap.size W w12 by rw [← hw]; exact below_set3 (HB_11.out.trans (hb.mono HB_11.out.size)) (by have q0 := SW.out; have q1 := BLT.out; have q2 := SZB.out; have q3 := SZC.out; have q4 := SZE.out; have q5 := SZ11.out; have q6 := SZ12.out; have q97 := SW.out; omega) _ _ _)
            have hw12 := hw
            clear hb hw hr hf hx
            by_cases hn : ECan (eConv zy py jy zz pz jz)
            · have HN := Lib.hid hn
              clear hn
              obtain ⟨c0, c1, c2, c3, c4, c5⟩ := Xf_12.out.box
              obtain ⟨d0, d1, d2, d3, d4, d5⟩ := Xg_12.out.box
              go_wp2_with fail
              try rw [hw12]
              clear hw12
              clear c0 c1 c2 c3 c4 c5 d0 d1 d2 d3 d4 d5
              with_reducible refine ((cof_small ay ny capy zy py jy TY.out.1.good (by have := TY.out.2.2; omega) az nz capz zz pz jz TZ.out.1.good (by have := TZ.out.2.2; omega) _ Xf_12.out.row Xg_12.out.row).mono fun _ _ h => h.ok HN.out).mono ?_
              rintro e v13 ⟨a13, n13, cap13, z13, p13, i13, rfl, hb, hr, hf, hx⟩
              obtain ⟨w13, hw⟩ : ∃ W, v13.alloc (.cells #[.slice a13 n13 cap13, .int .i64 p13, .int .i64 i13] 24) = W := ⟨_, rfl⟩
              have hz : Below w12.heap.size w12 w13 := by rw [← hw]; exact hb.trans ((below_box _).mono hb.size)
              have Xf_13 := Lib.hid (Xf_12.out.under hz)
              have Xg_13 := Lib.hid (Xg_12.out.under hz)
              have Xl_13 := Lib.hid (Xl_12.out.under hz)
              have Xb_13 := Lib.hid (Xb_12.out.under hz)
              have HB_13 := Lib.hid (HB_12.out.trans (hz.mono HB_12.out.size))
              have Xc_13 := Lib.hid (show Bx w13 v13.heap.size a13 n13 cap13 p13 i13 z13 by rw [← hw]; exact Bx.new hr)
              have HFc := Lib.hid hf
              have hw13 := hw
              have SZ13 := Lib.hid (show v13.heap.size < w13.heap.size ∧ w12.heap.size ≤ v13.heap.size from ⟨by rw [← hw]; simp, hb.size⟩)
              have RF13 := Lib.hid (And.intro hr.far hx)
              clear hb hr hf hx hz hw
              have OKC := Lib.hid ((okC_iff z13 p13 i13).2 HFc.out.good)
              have C64 := Lib.hid (show In64 (p13 : Int) ∧ In64 i13 from ⟨⟨by omega, by have q1 := HFc.out.good.few; have q2 := HFc.out.good.p3; omega⟩, by have q1 := HFc.out.good.i0; omega, by have q1 := HFc.out.good.i1; omega⟩)
              obtain ⟨c0, c1, c2, c3, c4, c5⟩ := Xc_13.out.box
              go_wp2_with fail
              try rw [hw13]
              clear hw13
              clear c0 c1 c2 c3 c4 c5
              with_reducible refine (rvalid_any a13 n13 cap13 z13 p13 i13 C64.out.1 C64.out.2 true OKC.out _ Xc_13.out.row).mono ?_
              rintro e w14 ⟨rfl, hb⟩
              have Xf_14 := Lib.hid (Xf_13.out.under hb)
              have Xg_14 := Lib.hid (Xg_13.out.under hb)
              have Xl_14 := Lib.hid (Xl_13.out.under hb)
              have Xb_14 := Lib.hid (Xb_13.out.under hb)
              have Xc_14 := Lib.hid (Xc_13.out.under hb)
              have HB_14 := Lib.hid (HB_13.out.trans (hb.mono HB_13.out.size))
              have SY14 := Lib.hid hb.size
              clear hb
              have EQ2 := Lib.hid (show eLater d z13 p13 i13 = eConv z11 p11 i11 zz pz jz by rw [EQ.out, eLater_F, funext HFc.out.val])
              obtain ⟨c0, c1, c2, c3, c4, c5⟩ := Xc_14.out.box
              go_wp2_with fail
              clear c0 c1 c2 c3 c4 c5
              with_reducible refine ((rlater_ok a13 n13 cap13 z13 p13 i13 HFc.out.good (d : Int) d rfl (by have := HD12.out; omega) _ Xc_14.out.row).mono fun _ _ h => h.ok (by rw [EQ2.out]; exact HJ.out)).mono ?_
              rintro e v15 ⟨a15, n15, cap15, z15, p15, i15, rfl, hb, hr, hf, hx⟩
              obtain ⟨w15, hw⟩ : ∃ W, v15.alloc (.cells #[.slice a15 n15 cap15, .int .i64 p15, .int .i64 i15] 24) = W := ⟨_, rfl⟩
              have hz : Below w14.heap.size w14 w15 := by rw [← hw]; exact hb.trans ((below_box _).mono hb.size)
              have Xf_15 := Lib.hid (Xf_14.out.under hz)
              have Xg_15 := Lib.hid (Xg_14.out.under hz)
              have Xl_15 := Lib.hid (Xl_14.out.under hz)
              have Xb_15 := Lib.hid (Xb_14.out.under hz)
              have Xc_15 := Lib.hid (Xc_14.out.under hz)
              have HB_15 := Lib.hid (HB_14.out.trans (hz.mono HB_14.out.size))
              have Xx_15 := Lib.hid (show Bx w15 v15.heap.size a15 n15 cap15 p15 i15 z15 by rw [← hw]; exact Bx.new hr)
              have HFx := Lib.hid hf
              have hw15 := hw
              have SZ15 := Lib.hid (show v15.heap.size < w15.heap.size ∧ w14.heap.size ≤ v15.heap.size from ⟨by rw [← hw]; simp, hb.size⟩)
              have RF15 := Lib.hid (And.intro hr.far hx)
              clear hb hr hf hx hz hw
              have HFx2 := Lib.hid (show EForm z15 p15 i15 (eConv z11 p11 i11 zz pz jz) by have := HFx.out; rwa [EQ2.out] at this)
              obtain ⟨c0, c1, c2, c3, c4, c5⟩ := Xx_15.out.box
              obtain ⟨d0, d1, d2, d3, d4, d5⟩ := Xb_15.out.box
              go_wp2_with fail
              try rw [hw15]
              clear hw15
              clear c0 c1 c2 c3 c4 c5 d0 d1 d2 d3 d4 d5
              with_reducible refine (same_at HFx2.out HFb2.out _ Xx_15.out.row Xb_15.out.row).mono ?_
              rintro e w16 ⟨rfl, hb⟩
              have Xf_16 := Lib.hid (Xf_15.out.under hb)
              have Xg_16 := Lib.hid (Xg_15.out.under hb)
              have Xl_16 := Lib.hid (Xl_15.out.under hb)
              have Xb_16 := Lib.hid (Xb_15.out.under hb)
              have Xc_16 := Lib.hid (Xc_15.out.under hb)
              have Xx_16 := Lib.hid (Xx_15.out.under hb)
              have HB_16 := Lib.hid (HB_15.out.trans (hb.mono HB_15.out.size))
              have SY16 := Lib.hid hb.size
              clear hb
              go_wp2_with fail
              with_reducible refine (awake7 _).mono ?_
              rintro e w17 ⟨rfl, hb⟩
              have HBZ := Lib.hid (HB_16.out.trans (hb.mono HB_16.out.size))
              clear hb
              go_wp2_with fail
              go_ret
              exact ⟨rfl, HBZ.out⟩
            · have HN := Lib.hid hn
              clear hn
              obtain ⟨c0, c1, c2, c3, c4, c5⟩ := Xf_12.out.box
              obtain ⟨d0, d1, d2, d3, d4, d5⟩ := Xg_12.out.box
              go_wp2_with fail
              try rw [hw12]
              clear hw12
              clear c0 c1 c2 c3 c4 c5 d0 d1 d2 d3 d4 d5
              with_reducible refine ((cof_small ay ny capy zy py jy TY.out.1.good (by have := TY.out.2.2; omega) az nz capz zz pz jz TZ.out.1.good (by have := TZ.out.2.2; omega) _ Xf_12.out.row Xg_12.out.row).mono fun _ _ h => h.no HN.out).mono ?_
              rintro e v13 ⟨rfl, hb⟩
              obtain ⟨w13, hw⟩ : ∃ W, v13.alloc (.cells #[.slice none 0 0, .int .i64 0, .int .i64 0] 24) = W := ⟨_, rfl⟩
              have hz : Below w12.heap.size w12 w13 := by rw [← hw]; exact hb.trans ((below_box _).mono hb.size)
              have Xf_13 := Lib.hid (Xf_12.out.under hz)
              have Xg_13 := Lib.hid (Xg_12.out.under hz)
              have Xl_13 := Lib.hid (Xl_12.out.under hz)
              have Xb_13 := Lib.hid (Xb_12.out.under hz)
              have HB_13 := Lib.hid (HB_12.out.trans (hz.mono HB_12.out.size))
              have Xc_13 := Lib.hid (show Bx w13 v13.heap.size none 0 0 ((0 : Nat)) 0 [] by rw [← hw]; exact Bx.new (rowZ_none _))
              have HWK13 := Lib.hid hw
              have SZ13 := Lib.hid (show v13.heap.size < w13.heap.size ∧ w12.heap.size ≤ v13.heap.size from ⟨by rw [← hw]; simp, hb.size⟩)
              clear hb hz hw
              go_upto_region 16 with fail
              try rw [HWK13.out]
              go_wp2_with fail
              with_reducible refine (awake7 _).mono ?_
              rintro e w14 ⟨rfl, hb⟩
              have HBZ := Lib.hid (HB_13.out.trans (hb.mono HB_13.out.size))
              clear hb
              go_wp2_with fail
              go_ret
              exact ⟨rfl, HBZ.out⟩
          · have HJ := Lib.hid hj
            clear hj
            obtain ⟨c0, c1, c2, c3, c4, c5⟩ := Xl_11.out.box
            obtain ⟨d0, d1, d2, d3, d4, d5⟩ := Xg_11.out.box
            go_wp2_with fail
            try rw [hw11]
            clear hw11
            clear c0 c1 c2 c3 c4 c5 d0 d1 d2 d3 d4 d5
            with_reducible refine ((cof_small a11 n11 cap11 z11 p11 i11 HFl.out.good (by have := PL.out; omega) az nz capz zz pz jz TZ.out.1.good (by have := TZ.out.2.2; omega) _ Xl_11.out.row Xg_11.out.row).mono fun _ _ h => h.no HJ.out).mono ?_
            rintro e v12 ⟨rfl, hb⟩
            obtain ⟨w12, hw⟩ : ∃ W, (((v12.setCell ⟨v3.heap.size, 0, none⟩ (.slice none 0 0)).setCell ⟨v3.heap.size, 1, none⟩ (.int .i64 0)).setCell ⟨v3.heap.size, 2, none⟩ (.int .i64 0)) = W := ⟨_, rfl⟩
            have SZ12 := Lib.hid (show w12.heap.size = v12.heap.size ∧ w11.heap.size ≤ v12.heap.size from ⟨by rw [← hw]; simp [World.setCell], hb.size⟩)
            obtain ⟨y0, y1, y2, y3, y4, y5⟩ := Cb_11.out.below hb
            have Xf_12 := Lib.hid (show Bx w12 u4.heap.size ay ny capy py jy zy from by rw [← hw]; exact (Xf_11.out.under hb).set (by have q0 := SW.out; have q1 := BLT.out; have q2 := SZB.out; have q3 := SZC.out; have q4 := SZE.out; have q5 := SZ11.out; have q6 := SZ12.out; omega) (fun x hx9 hn9 => by have q98 := FY.out.1 x hx9 hn9; have q99 := FY.out.2 x hx9; have q0 := SW.out; have q1 := BLT.out; have q2 := SZB.out; have q3 := SZC.out; have q4 := SZE.out; have q5 := SZ11.out; have q6 := SZ12.out; omega) _ _ _)
            have Xg_12 := Lib.hid (show Bx w12 (u4.heap.size + 1) az nz capz pz jz zz from by rw [← hw]; exact (Xg_11.out.under hb).set (by have q0 := SW.out; have q1 := BLT.out; have q2 := SZB.out; have q3 := SZC.out; have q4 := SZE.out; have q5 := SZ11.out; have q6 := SZ12.out; omega) (fun x hx9 hn9 => by have q98 := FZ.out.1 x hx9 hn9; have q99 := FZ.out.2 x hx9; have q0 := SW.out; have q1 := BLT.out; have q2 := SZB.out; have q3 := SZC.out; have q4 := SZE.out; have q5 := SZ11.out; have q6 := SZ12.out; omega) _ _ _)
            have Xl_12 := Lib.hid (show Bx w12 v11.heap.size a11 n11 cap11 p11 i11 z11 from by rw [← hw]; exact (Xl_11.out.under hb).set (by have q0 := SW.out; have q1 := BLT.out; have q2 := SZB.out; have q3 := SZC.out; have q4 := SZE.out; have q5 := SZ11.out; have q6 := SZ12.out; omega) (fun x hx9 hn9 => by have q98 := RF11.out.1 x hx9 hn9; have q99 := RF11.out.2 x hx9; have q0 := SW.out; have q1 := BLT.out; have q2 := SZB.out; have q3 := SZC.out; have q4 := SZE.out; have q5 := SZ11.out; have q6 := SZ12.out; omega) _ _ _)
            have HB_12 := Lib.hid (show Below W.heap.size W w12 by rw [← hw]; exact below_set3 (HB_11.out.trans (hb.mono HB_11.out.size)) (by have q0 := SW.out; have q1 := BLT.out; have q2 := SZB.out; have q3 := SZC.out; have q4 := SZE.out; have q5 := SZ11.out; have q6 := SZ12.out; have q97 := SW.out; omega) _ _ _)
            have hw12 := hw
            clear hb hw
            obtain ⟨c0, c1, c2, c3, c4, c5⟩ := Xf_12.out.box
            obtain ⟨d0, d1, d2, d3, d4, d5⟩ := Xg_12.out.box
            go_wp2_with fail
            try rw [hw12]
            clear hw12
            clear c0 c1 c2 c3 c4 c5 d0 d1 d2 d3 d4 d5
            clear y0 y1 y2 y3 y4 y5
            with_reducible refine ((cof_small ay ny capy zy py jy TY.out.1.good (by have := TY.out.2.2; omega) az nz capz zz pz jz TZ.out.1.good (by have := TZ.out.2.2; omega) _ Xf_12.out.row Xg_12.out.row).mono fun _ _ h => h.any).mono ?_
            rintro e v13 ⟨a13, n13, cap13, p13, i13, cd13, rfl, hb⟩
            obtain ⟨w13, hw⟩ : ∃ W, v13.alloc (.cells #[.slice a13 n13 cap13, .int .i64 p13, .int .i64 i13] 24) = W := ⟨_, rfl⟩
            have hz : Below w12.heap.size w12 w13 := by rw [← hw]; exact hb.trans ((below_box _).mono hb.size)
            have Xf_13 := Lib.hid (Xf_12.out.under hz)
            have Xg_13 := Lib.hid (Xg_12.out.under hz)
            have Xl_13 := Lib.hid (Xl_12.out.under hz)
            have HB_13 := Lib.hid (HB_12.out.trans (hz.mono HB_12.out.size))
            have Cc_13 := Lib.hid (show Cur3 w13 v13.heap.size (.slice a13 n13 cap13) (.int .i64 p13) (.int .i64 i13) by rw [← hw]; exact Cur3.new _ _ _ _ _)
            have SZ13 := Lib.hid (show v13.heap.size < w13.heap.size ∧ w12.heap.size ≤ v13.heap.size from ⟨by rw [← hw]; simp, hb.size⟩)
            have hw13 := hw
            clear hb hz hw
            go_wp2_with fail
            try rw [hw13]
            clear hw13
            go_wp2_with fail
            with_reducible refine (awake7 _).mono ?_
            rintro e w14 ⟨rfl, hb⟩
            have HBZ := Lib.hid (HB_13.out.trans (hb.mono HB_13.out.size))
            clear hb
            go_wp2_with fail
            go_ret
            exact ⟨rfl, HBZ.out⟩
        · have HX := Lib.hid hx
          clear hx
          obtain ⟨c0, c1, c2, c3, c4, c5⟩ := Xf_3.out.box
          obtain ⟨d0, d1, d2, d3, d4, d5⟩ := Xm_3.out.box
          go_wp2_with fail
          try rw [hw3]
          clear hw3
          clear c0 c1 c2 c3 c4 c5 d0 d1 d2 d3 d4 d5
          with_reducible refine ((cof_day af nf capf zf pf jf GF.out.1 a1 n1 cap1 z1 p1 i1 HFm.out.good DF.out.1 DM.out _ Xf_3.out.row Xm_3.out.row).mono fun _ _ h => h.no HX.out).mono ?_
          rintro e v4 ⟨rfl, hb⟩
          obtain ⟨w4, hw⟩ : ∃ W, v4.alloc (.cells #[.slice none 0 0, .int .i64 0, .int .i64 0] 24) = W := ⟨_, rfl⟩
          have hz : Below w3.heap.size w3 w4 := by rw [← hw]; exact hb.trans ((below_box _).mono hb.size)
          have Xf_4 := Lib.hid (Xf_3.out.under hz)
          have Xg_4 := Lib.hid (Xg_3.out.under hz)
          have Xh_4 := Lib.hid (Xh_3.out.under hz)
          have Xm_4 := Lib.hid (Xm_3.out.under hz)
          have Xa_4 := Lib.hid (Xa_3.out.under hz)
          have Xb_4 := Lib.hid (Xb_3.out.under hz)
          have HB_4 := Lib.hid (HB_3.out.trans (hz.mono HB_3.out.size))
          have Xx_4 := Lib.hid (show Bx w4 v4.heap.size none 0 0 ((0 : Nat)) 0 [] by rw [← hw]; exact Bx.new (rowZ_none _))
          have HWK4 := Lib.hid hw
          have SZ4 := Lib.hid (show v4.heap.size < w4.heap.size ∧ w3.heap.size ≤ v4.heap.size from ⟨by rw [← hw]; simp, hb.size⟩)
          clear hb hz hw
          obtain ⟨c0, c1, c2, c3, c4, c5⟩ := Xa_4.out.box
          obtain ⟨d0, d1, d2, d3, d4, d5⟩ := Xb_4.out.box
          go_upto_region 8 with fail
          try rw [HWK4.out]
          go_wp2_with fail
          clear c0 c1 c2 c3 c4 c5 d0 d1 d2 d3 d4 d5
          with_reducible refine ((rmin_day7 a2 n2 cap2 z2 p2 i2 HFa.out.good a3 n3 cap3 z3 p3 i3 HFb.out.good DA.out DB.out _ Xa_4.out.row Xb_4.out.row).mono fun _ _ h => h.any).mono ?_
          rintro e v5 ⟨a5, n5, cap5, p5, i5, cd5, rfl, hb⟩
          obtain ⟨w5, hw⟩ : ∃ W, v5.alloc (.cells #[.slice a5 n5 cap5, .int .i64 p5, .int .i64 i5] 24) = W := ⟨_, rfl⟩
          have hz : Below w4.heap.size w4 w5 := by rw [← hw]; exact hb.trans ((below_box _).mono hb.size)
          have Xf_5 := Lib.hid (Xf_4.out.under hz)
          have Xg_5 := Lib.hid (Xg_4.out.under hz)
          have Xh_5 := Lib.hid (Xh_4.out.under hz)
          have Xm_5 := Lib.hid (Xm_4.out.under hz)
          have Xa_5 := Lib.hid (Xa_4.out.under hz)
          have Xb_5 := Lib.hid (Xb_4.out.under hz)
          have Xx_5 := Lib.hid (Xx_4.out.under hz)
          have HB_5 := Lib.hid (HB_4.out.trans (hz.mono HB_4.out.size))
          have Cy_5 := Lib.hid (show Cur3 w5 v5.heap.size (.slice a5 n5 cap5) (.int .i64 p5) (.int .i64 i5) by rw [← hw]; exact Cur3.new _ _ _ _ _)
          have SZ5 := Lib.hid (show v5.heap.size < w5.heap.size ∧ w4.heap.size ≤ v5.heap.size from ⟨by rw [← hw]; simp, hb.size⟩)
          have hw5 := hw
          clear hb hz hw
          have Cf_6 := Lib.hid Xf_5.out.box
          have Cg_7 := Lib.hid Xg_5.out.box
          have Cb_8 := Lib.hid Xb_5.out.box
          go_wp2_with fail
          try rw [hw5]
          clear hw5
          have HSA := Lib.hid (src_under SR0.out HB_5.out)
          have HBA := Lib.hid (HB5.out.trans (HB_5.out.mono HB5.out.size))
          have BLT := Lib.hid (show v3.heap.size < w5.heap.size ∧ w0.heap.size ≤ v3.heap.size from ⟨Cb_8.out.lt, by have q97 := SW.out; have q0 := SZ1.out; have q1 := SZ2.out; have q2 := SZ3.out; have q3 := SZ4.out; have q4 := SZ5.out; omega⟩)
          refine (n_any 12 (by omega) (by omega) _ ra rn rc _ HSA.out).mono ?_
          rintro e ub ⟨rd, ⟨rd0, rd1⟩, rfl, hsb, heb⟩
          have HSB := Lib.hid hsb
          have HBB := Lib.hid (HBA.out.trans (heb.below (Nat.le_refl _)))
          obtain ⟨d, rfl⟩ := Int.eq_ofNat_of_zero_le rd0
          have HD12 := Lib.hid (show d ≤ 12 by omega)
          have CF1 := Lib.hid (Cf_6.out.apart heb.apart (by have := SW.out; omega))
          have CG1 := Lib.hid (Cg_7.out.apart heb.apart (by have := SW.out; omega))
          have CB1 := Lib.hid (Cb_8.out.apart heb.apart (by have := SW.out; have := BLT.out; omega))
          have SZB := Lib.hid (show w5.heap.size ≤ ub.heap.size from heb.apart.size)
          clear hsb heb rd0 rd1
          go_wp2_with fail
          refine (zero_any 4 (by omega) (by omega) _ ra rn rc _ HSB.out).mono ?_
          rintro e uc ⟨ay, ny, capy, zy, py, jy, rfl, hsc, hec, hrc, gy, hfy, h0y, smy, hxy⟩
          have HSC := Lib.hid hsc
          have HBC := Lib.hid (HBB.out.trans (hec.below (Nat.le_refl _) HBB.out.size))
          have TY := Lib.hid (And.intro (tiny_of gy hfy smy.1 smy.2.1 smy.2.2.1 smy.2.2.2) (And.intro h0y smy.2.1))
          have RY := Lib.hid hrc
          have QY := Lib.hid hxy
          have CF2 := Lib.hid (CF1.out.apart hec (by have := SW.out; omega))
          have CG2 := Lib.hid (CG1.out.apart hec (by have := SW.out; omega))
          have CB2 := Lib.hid (CB1.out.apart hec (by have := SW.out; have := BLT.out; omega))
          have SZC := Lib.hid (show ub.heap.size ≤ uc.heap.size from hec.size)
          clear hsc hec hrc gy hfy h0y smy hxy
          go_wp2_with fail
          refine (zero_any 4 (by omega) (by omega) _ ra rn rc _ HSC.out).mono ?_
          rintro e ud ⟨az, nz, capz, zz, pz, jz, rfl, hsd, hed, hrd, gz, hfz, h0z, smz, hxz⟩
          have hbd := HBC.out.trans (hed.below (Nat.le_refl _) HBC.out.size)
          have TZ := Lib.hid (And.intro (tiny_of gz hfz smz.1 smz.2.1 smz.2.2.1 smz.2.2.2) (And.intro h0z smz.2.1))
          have QZ := Lib.hid hxz
          have hcf := CF2.out.apart hed (by have := SW.out; omega)
          have hcg := CG2.out.apart hed (by have := SW.out; omega)
          have hcb := CB2.out.apart hed (by have := SW.out; have := BLT.out; omega)
          have hry := RY.out.apart hed (fun x hx => by have q1 := QY.out x hx; have q2 := SW.out; have q3 := BLT.out; have q4 := SZB.out; omega)
          have hsz := hed.size
          obtain ⟨we, hw⟩ : ∃ W, ((((((ud.setCell ⟨u4.heap.size, 0, none⟩ (.slice ay ny capy)).setCell ⟨u4.heap.size, 1, none⟩ (.int .i64 py)).setCell ⟨u4.heap.size, 2, none⟩ (.int .i64 jy)).setCell ⟨u4.heap.size + 1, 0, none⟩ (.slice az nz capz)).setCell ⟨u4.heap.size + 1, 1, none⟩ (.int .i64 pz)).setCell ⟨u4.heap.size + 1, 2, none⟩ (.int .i64 jz)) = W := ⟨_, rfl⟩
          have NY := Lib.hid (show (∀ G, G < ub.heap.size → ∀ x, ay = some x → 1 ≤ ny → x.block ≠ G) ∧ ∀ G, G < uc.heap.size → ∀ x, az = some x → 1 ≤ nz → x.block ≠ G from ⟨fun G hG x hx _ => by have := QY.out x hx; omega, fun G hG x hx _ => by have := hxz x hx; omega⟩)
          have HLT := Lib.hid (show u4.heap.size + 1 < ub.heap.size ∧ u4.heap.size + 1 < uc.heap.size by have q1 := SW.out; have q2 := SZB.out; have q3 := SZC.out; have q4 := BLT.out; omega)
          have Xf_e := Lib.hid (show Bx we u4.heap.size ay ny capy py jy zy by rw [← hw]; exact (Bx.lay hcf hry (NY.out.1 _ (by have := HLT.out; omega))).set (by omega) (NY.out.1 _ (by have := HLT.out; omega)) _ _ _)
          have Xg_e := Lib.hid (show Bx we (u4.heap.size + 1) az nz capz pz jz zz by rw [← hw]; exact Bx.lay (((hcg.other (by omega) _ _).other (by omega) _ _).other (by omega) _ _) (((hrd.store (NY.out.2 _ (by have := HLT.out; omega)) _ _).store (NY.out.2 _ (by have := HLT.out; omega)) _ _).store (NY.out.2 _ (by have := HLT.out; omega)) _ _) (NY.out.2 _ (by have := HLT.out; omega)))
          have BNE := Lib.hid (show ¬ v3.heap.size = u4.heap.size ∧ ¬ v3.heap.size = u4.heap.size + 1 by have q1 := SW.out; have q2 := BLT.out; omega)
          have Cb_e := Lib.hid (show Cur3 we v3.heap.size _ _ _ by rw [← hw]; exact (((((hcb.other BNE.out.1 _ _).other BNE.out.1 _ _).other BNE.out.1 _ _).other BNE.out.2 _ _).other BNE.out.2 _ _).other BNE.out.2 _ _)
          have HB_e := Lib.hid (show Below W.heap.size W we by rw [← hw]; exact below_set3 (below_set3 hbd (by have := SW.out; omega) _ _ _) (by have := SW.out; omega) _ _ _)
          have SZE := Lib.hid (show v3.heap.size < we.heap.size ∧ we.heap.size = ud.heap.size ∧ uc.heap.size ≤ ud.heap.size from ⟨by have q1 := BLT.out; have q2 := SZB.out; have q3 := SZC.out; rw [← hw]; simp [World.setCell]; omega, by rw [← hw]; simp [World.setCell], hsz⟩)
          have FY := Lib.hid (show (∀ x, ay = some x → 1 ≤ ny → x.block < we.heap.size) ∧ ∀ x, ay = some x → ub.heap.size ≤ x.block from ⟨fun x hx hn => by have := hry.far x hx hn; have := SZE.out; omega, QY.out⟩)
          have FZ := Lib.hid (show (∀ x, az = some x → 1 ≤ nz → x.block < we.heap.size) ∧ ∀ x, az = some x → uc.heap.size ≤ x.block from ⟨fun x hx hn => by have := hrd.far x hx hn; have := SZE.out; omega, QZ.out⟩)
          obtain ⟨c0, c1, c2, c3, c4, c5⟩ := hcf
          obtain ⟨d0, d1, d2, d3, d4, d5⟩ := hcg
          have hw9 := hw
          clear hsd hed hrd gz hfz h0z smz hxz hbd hcb hry hsz hw
          go_upto_region 13 with fail
          try rw [hw9]
          clear hw9 c0 c1 c2 c3 c4 c5 d0 d1 d2 d3 d4 d5
          obtain ⟨c0, c1, c2, c3, c4, c5⟩ := Xf_e.out.box
          go_wp2_with fail
          clear c0 c1 c2 c3 c4 c5
          with_reducible refine ((rlater_ok ay ny capy zy py jy TY.out.1.good (d : Int) d rfl (by have := HD12.out; omega) _ Xf_e.out.row).mono fun _ _ h => h.ok (later_can TY.out.1 (by have := HD12.out; omega))).mono ?_
          rintro e v10 ⟨a10, n10, cap10, z10, p10, i10, rfl, hb, hr, hf, hx⟩
          obtain ⟨w10, hw⟩ : ∃ W, v10.alloc (.cells #[.slice a10 n10 cap10, .int .i64 p10, .int .i64 i10] 24) = W := ⟨_, rfl⟩
          have hz : Below we.heap.size we w10 := by rw [← hw]; exact hb.trans ((below_box _).mono hb.size)
          have Cb_10 := Lib.hid (Cb_e.out.below hz)
          have Xf_10 := Lib.hid (Xf_e.out.under hz)
          have Xg_10 := Lib.hid (Xg_e.out.under hz)
          have HB_10 := Lib.hid (HB_e.out.trans (hz.mono HB_e.out.size))
          have Xl_10 := Lib.hid (show Bx w10 v10.heap.size a10 n10 cap10 p10 i10 z10 by rw [← hw]; exact Bx.new hr)
          have HFl := Lib.hid hf
          have hw10 := hw
          have SZ10 := Lib.hid (show v10.heap.size < w10.heap.size ∧ we.heap.size ≤ v10.heap.size from ⟨by rw [← hw]; simp, hb.size⟩)
          have RF10 := Lib.hid (And.intro hr.far hx)
          clear hb hr hf hx hz hw
          have PL := Lib.hid (show p10 ≤ 8 by have q1 := eform_per TY.out.1.good (later_per9 TY.out.1.good d) HFl.out; have q2 := TY.out.2.2; omega)
          have EQ := Lib.hid (show eConv z10 p10 i10 zz pz jz = laterF d (eConv zy py jy zz pz jz) from conv_late0 TY.out.1.good TZ.out.1.good TY.out.1.fin TZ.out.1.fin TY.out.2.1 TZ.out.2.1 HFl.out.val)
          by_cases hj : ECan (eConv z10 p10 i10 zz pz jz)
          · have HJ := Lib.hid hj
            clear hj
            obtain ⟨c0, c1, c2, c3, c4, c5⟩ := Xl_10.out.box
            obtain ⟨d0, d1, d2, d3, d4, d5⟩ := Xg_10.out.box
            go_wp2_with fail
            try rw [hw10]
            clear hw10
            clear c0 c1 c2 c3 c4 c5 d0 d1 d2 d3 d4 d5
            with_reducible refine ((cof_small a10 n10 cap10 z10 p10 i10 HFl.out.good (by have := PL.out; omega) az nz capz zz pz jz TZ.out.1.good (by have := TZ.out.2.2; omega) _ Xl_10.out.row Xg_10.out.row).mono fun _ _ h => h.ok HJ.out).mono ?_
            rintro e v11 ⟨a11, n11, cap11, z11, p11, i11, rfl, hb, hr, hf, hx⟩
            have HFb2 := Lib.hid hf
            have RF11 := Lib.hid (And.intro hr.far hx)
            obtain ⟨w11, hw⟩ : ∃ W, (((v11.setCell ⟨v3.heap.size, 0, none⟩ (.slice a11 n11 cap11)).setCell ⟨v3.heap.size, 1, none⟩ (.int .i64 p11)).setCell ⟨v3.heap.size, 2, none⟩ (.int .i64 i11)) = W := ⟨_, rfl⟩
            have SZ11 := Lib.hid (show w11.heap.size = v11.heap.size ∧ w10.heap.size ≤ v11.heap.size from ⟨by rw [← hw]; simp [World.setCell], hb.size⟩)
            obtain ⟨y0, y1, y2, y3, y4, y5⟩ := Cb_10.out.below hb
            have Xf_11 := Lib.hid (show Bx w11 u4.heap.size ay ny capy py jy zy from by rw [← hw]; exact (Xf_10.out.under hb).set (by have q0 := SW.out; have q1 := BLT.out; have q2 := SZB.out; have q3 := SZC.out; have q4 := SZE.out; have q5 := SZ10.out; have q6 := SZ11.out; omega) (fun x hx9 hn9 => by have q98 := FY.out.1 x hx9 hn9; have q99 := FY.out.2 x hx9; have q0 := SW.out; have q1 := BLT.out; have q2 := SZB.out; have q3 := SZC.out; have q4 := SZE.out; have q5 := SZ10.out; have q6 := SZ11.out; omega) _ _ _)
            have Xg_11 := Lib.hid (show Bx w11 (u4.heap.size + 1) az nz capz pz jz zz from by rw [← hw]; exact (Xg_10.out.under hb).set (by have q0 := SW.out; have q1 := BLT.out; have q2 := SZB.out; have q3 := SZC.out; have q4 := SZE.out; have q5 := SZ10.out; have q6 := SZ11.out; omega) (fun x hx9 hn9 => by have q98 := FZ.out.1 x hx9 hn9; have q99 := FZ.out.2 x hx9; have q0 := SW.out; have q1 := BLT.out; have q2 := SZB.out; have q3 := SZC.out; have q4 := SZE.out; have q5 := SZ10.out; have q6 := SZ11.out; omega) _ _ _)
            have Xl_11 := Lib.hid (show Bx w11 v10.heap.size a10 n10 cap10 p10 i10 z10 from by rw [← hw]; exact (Xl_10.out.under hb).set (by have q0 := SW.out; have q1 := BLT.out; have q2 := SZB.out; have q3 := SZC.out; have q4 := SZE.out; have q5 := SZ10.out; have q6 := SZ11.out; omega) (fun x hx9 hn9 => by have q98 := RF10.out.1 x hx9 hn9; have q99 := RF10.out.2 x hx9; have q0 := SW.out; have q1 := BLT.out; have q2 := SZB.out; have q3 := SZC.out; have q4 := SZE.out; have q5 := SZ10.out; have q6 := SZ11.out; omega) _ _ _)
            have Xb_11 := Lib.hid (show Bx w11 v3.heap.size a11 n11 cap11 p11 i11 z11 by rw [← hw]; exact Bx.lay (Cb_10.out.below hb) hr (fun x hx9 hn9 => by have q99 := RF11.out.2 x hx9; have q0 := SW.out; have q1 := BLT.out; have q2 := SZB.out; have q3 := SZC.out; have q4 := SZE.out; have q5 := SZ10.out; have q6 := SZ11.out; omega))
            have HB_11 := Lib.hid (show Below W.heap.size W w11 by rw [← hw]; exact below_set3 (HB_10.out.trans (hb.mono HB_10.out.size)) (by have q0 := SW.out; have q1 := BLT.out; have q2 := SZB.out; have q3 := SZC.out; have q4 := SZE.out; have q5 := SZ10.out; have q6 := SZ11.out; have q97 := SW.out; omega) _ _ _)
            have hw11 := hw
            clear hb hw hr hf hx
            by_cases hn : ECan (eConv zy py jy zz pz jz)
            · have HN := Lib.hid hn
              clear hn
              obtain ⟨c0, c1, c2, c3, c4, c5⟩ := Xf_11.out.box
              obtain ⟨d0, d1, d2, d3, d4, d5⟩ := Xg_11.out.box
              go_wp2_with fail
              try rw [hw11]
              clear hw11
              clear c0 c1 c2 c3 c4 c5 d0 d1 d2 d3 d4 d5
              with_reducible refine ((cof_small ay ny capy zy py jy TY.out.1.good (by have := TY.out.2.2; omega) az nz capz zz pz jz TZ.out.1.good (by have := TZ.out.2.2; omega) _ Xf_11.out.row Xg_11.out.row).mono fun _ _ h => h.ok HN.out).mono ?_
              rintro e v12 ⟨a12, n12, cap12, z12, p12, i12, rfl, hb, hr, hf, hx⟩
              obtain ⟨w12, hw⟩ : ∃ W, v12.alloc (.cells #[.slice a12 n12 cap12, .int .i64 p12, .int .i64 i12] 24) = W := ⟨_, rfl⟩
              have hz : Below w11.heap.size w11 w12 := by rw [← hw]; exact hb.trans ((below_box _).mono hb.size)
              have Xf_12 := Lib.hid (Xf_11.out.under hz)
              have Xg_12 := Lib.hid (Xg_11.out.under hz)
              have Xl_12 := Lib.hid (Xl_11.out.under hz)
              have Xb_12 := Lib.hid (Xb_11.out.under hz)
              have HB_12 := Lib.hid (HB_11.out.trans (hz.mono HB_11.out.size))
              have Xc_12 := Lib.hid (show Bx w12 v12.heap.size a12 n12 cap12 p12 i12 z12 by rw [← hw]; exact Bx.new hr)
              have HFc := Lib.hid hf
              have hw12 := hw
              have SZ12 := Lib.hid (show v12.heap.size < w12.heap.size ∧ w11.heap.size ≤ v12.heap.size from ⟨by rw [← hw]; simp, hb.size⟩)
              have RF12 := Lib.hid (And.intro hr.far hx)
              clear hb hr hf hx hz hw
              have OKC := Lib.hid ((okC_iff z12 p12 i12).2 HFc.out.good)
              have C64 := Lib.hid (show In64 (p12 : Int) ∧ In64 i12 from ⟨⟨by omega, by have q1 := HFc.out.good.few; have q2 := HFc.out.good.p3; omega⟩, by have q1 := HFc.out.good.i0; omega, by have q1 := HFc.out.good.i1; omega⟩)
              obtain ⟨c0, c1, c2, c3, c4, c5⟩ := Xc_12.out.box
              go_wp2_with fail
              try rw [hw12]
              clear hw12
              clear c0 c1 c2 c3 c4 c5
              with_reducible refine (rvalid_any a12 n12 cap12 z12 p12 i12 C64.out.1 C64.out.2 true OKC.out _ Xc_12.out.row).mono ?_
              rintro e w13 ⟨rfl, hb⟩
              have Xf_13 := Lib.hid (Xf_12.out.under hb)
              have Xg_13 := Lib.hid (Xg_12.out.under hb)
              have Xl_13 := Lib.hid (Xl_12.out.under hb)
              have Xb_13 := Lib.hid (Xb_12.out.under hb)
              have Xc_13 := Lib.hid (Xc_12.out.under hb)
              have HB_13 := Lib.hid (HB_12.out.trans (hb.mono HB_12.out.size))
              have SY13 := Lib.hid hb.size
              clear hb
              have EQ2 := Lib.hid (show eLater d z12 p12 i12 = eConv z10 p10 i10 zz pz jz by rw [EQ.out, eLater_F, funext HFc.out.val])
              obtain ⟨c0, c1, c2, c3, c4, c5⟩ := Xc_13.out.box
              go_wp2_with fail
              clear c0 c1 c2 c3 c4 c5
              with_reducible refine ((rlater_ok a12 n12 cap12 z12 p12 i12 HFc.out.good (d : Int) d rfl (by have := HD12.out; omega) _ Xc_13.out.row).mono fun _ _ h => h.ok (by rw [EQ2.out]; exact HJ.out)).mono ?_
              rintro e v14 ⟨a14, n14, cap14, z14, p14, i14, rfl, hb, hr, hf, hx⟩
              obtain ⟨w14, hw⟩ : ∃ W, v14.alloc (.cells #[.slice a14 n14 cap14, .int .i64 p14, .int .i64 i14] 24) = W := ⟨_, rfl⟩
              have hz : Below w13.heap.size w13 w14 := by rw [← hw]; exact hb.trans ((below_box _).mono hb.size)
              have Xf_14 := Lib.hid (Xf_13.out.under hz)
              have Xg_14 := Lib.hid (Xg_13.out.under hz)
              have Xl_14 := Lib.hid (Xl_13.out.under hz)
              have Xb_14 := Lib.hid (Xb_13.out.under hz)
              have Xc_14 := Lib.hid (Xc_13.out.under hz)
              have HB_14 := Lib.hid (HB_13.out.trans (hz.mono HB_13.out.size))
              have Xx_14 := Lib.hid (show Bx w14 v14.heap.size a14 n14 cap14 p14 i14 z14 by rw [← hw]; exact Bx.new hr)
              have HFx := Lib.hid hf
              have hw14 := hw
              have SZ14 := Lib.hid (show v14.heap.size < w14.heap.size ∧ w13.heap.size ≤ v14.heap.size from ⟨by rw [← hw]; simp, hb.size⟩)
              have RF14 := Lib.hid (And.intro hr.far hx)
              clear hb hr hf hx hz hw
              have HFx2 := Lib.hid (show EForm z14 p14 i14 (eConv z10 p10 i10 zz pz jz) by have := HFx.out; rwa [EQ2.out] at this)
              obtain ⟨c0, c1, c2, c3, c4, c5⟩ := Xx_14.out.box
              obtain ⟨d0, d1, d2, d3, d4, d5⟩ := Xb_14.out.box
              go_wp2_with fail
              try rw [hw14]
              clear hw14
              clear c0 c1 c2 c3 c4 c5 d0 d1 d2 d3 d4 d5
              with_reducible refine (same_at HFx2.out HFb2.out _ Xx_14.out.row Xb_14.out.row).mono ?_
              rintro e w15 ⟨rfl, hb⟩
              have Xf_15 := Lib.hid (Xf_14.out.under hb)
              have Xg_15 := Lib.hid (Xg_14.out.under hb)
              have Xl_15 := Lib.hid (Xl_14.out.under hb)
              have Xb_15 := Lib.hid (Xb_14.out.under hb)
              have Xc_15 := Lib.hid (Xc_14.out.under hb)
              have Xx_15 := Lib.hid (Xx_14.out.under hb)
              have HB_15 := Lib.hid (HB_14.out.trans (hb.mono HB_14.out.size))
              have SY15 := Lib.hid hb.size
              clear hb
              go_wp2_with fail
              with_reducible refine (awake7 _).mono ?_
              rintro e w16 ⟨rfl, hb⟩
              have HBZ := Lib.hid (HB_15.out.trans (hb.mono HB_15.out.size))
              clear hb
              go_wp2_with fail
              go_ret
              exact ⟨rfl, HBZ.out⟩
            · have HN := Lib.hid hn
              clear hn
              obtain ⟨c0, c1, c2, c3, c4, c5⟩ := Xf_11.out.box
              obtain ⟨d0, d1, d2, d3, d4, d5⟩ := Xg_11.out.box
              go_wp2_with fail
              try rw [hw11]
              clear hw11
              clear c0 c1 c2 c3 c4 c5 d0 d1 d2 d3 d4 d5
              with_reducible refine ((cof_small ay ny capy zy py jy TY.out.1.good (by have := TY.out.2.2; omega) az nz capz zz pz jz TZ.out.1.good (by have := TZ.out.2.2; omega) _ Xf_11.out.row Xg_11.out.row).mono fun _ _ h => h.no HN.out).mono ?_
              rintro e v12 ⟨rfl, hb⟩
              obtain ⟨w12, hw⟩ : ∃ W, v12.alloc (.cells #[.slice none 0 0, .int .i64 0, .int .i64 0] 24) = W := ⟨_, rfl⟩
              have hz : Below w11.heap.size w11 w12 := by rw [← hw]; exact hb.trans ((below_box _).mono hb.size)
              have Xf_12 := Lib.hid (Xf_11.out.under hz)
              have Xg_12 := Lib.hid (Xg_11.out.under hz)
              have Xl_12 := Lib.hid (Xl_11.out.under hz)
              have Xb_12 := Lib.hid (Xb_11.out.under hz)
              have HB_12 := Lib.hid (HB_11.out.trans (hz.mono HB_11.out.size))
              have Xc_12 := Lib.hid (show Bx w12 v12.heap.size none 0 0 ((0 : Nat)) 0 [] by rw [← hw]; exact Bx.new (rowZ_none _))
              have HWK12 := Lib.hid hw
              have SZ12 := Lib.hid (show v12.heap.size < w12.heap.size ∧ w11.heap.size ≤ v12.heap.size from ⟨by rw [← hw]; simp, hb.size⟩)
              clear hb hz hw
              go_upto_region 16 with fail
              try rw [HWK12.out]
              go_wp2_with fail
              with_reducible refine (awake7 _).mono ?_
              rintro e w13 ⟨rfl, hb⟩
              have HBZ := Lib.hid (HB_12.out.trans (hb.mono HB_12.out.size))
              clear hb
              go_wp2_with fail
              go_ret
              exact ⟨rfl, HBZ.out⟩
          · have HJ := Lib.hid hj
            clear hj
            obtain ⟨c0, c1, c2, c3, c4, c5⟩ := Xl_10.out.box
            obtain ⟨d0, d1, d2, d3, d4, d5⟩ := Xg_10.out.box
            go_wp2_with fail
            try rw [hw10]
            clear hw10
            clear c0 c1 c2 c3 c4 c5 d0 d1 d2 d3 d4 d5
            with_reducible refine ((cof_small a10 n10 cap10 z10 p10 i10 HFl.out.good (by have := PL.out; omega) az nz capz zz pz jz TZ.out.1.good (by have := TZ.out.2.2; omega) _ Xl_10.out.row Xg_10.out.row).mono fun _ _ h => h.no HJ.out).mono ?_
            rintro e v11 ⟨rfl, hb⟩
            obtain ⟨w11, hw⟩ : ∃ W, (((v11.setCell ⟨v3.heap.size, 0, none⟩ (.slice none 0 0)).setCell ⟨v3.heap.size, 1, none⟩ (.int .i64 0)).setCell ⟨v3.heap.size, 2, none⟩ (.int .i64 0)) = W := ⟨_, rfl⟩
            have SZ11 := Lib.hid (show w11.heap.size = v11.heap.size ∧ w10.heap.size ≤ v11.heap.size from ⟨by rw [← hw]; simp [World.setCell], hb.size⟩)
            obtain ⟨y0, y1, y2, y3, y4, y5⟩ := Cb_10.out.below hb
            have Xf_11 := Lib.hid (show Bx w11 u4.heap.size ay ny capy py jy zy from by rw [← hw]; exact (Xf_10.out.under hb).set (by have q0 := SW.out; have q1 := BLT.out; have q2 := SZB.out; have q3 := SZC.out; have q4 := SZE.out; have q5 := SZ10.out; have q6 := SZ11.out; omega) (fun x hx9 hn9 => by have q98 := FY.out.1 x hx9 hn9; have q99 := FY.out.2 x hx9; have q0 := SW.out; have q1 := BLT.out; have q2 := SZB.out; have q3 := SZC.out; have q4 := SZE.out; have q5 := SZ10.out; have q6 := SZ11.out; omega) _ _ _)
            have Xg_11 := Lib.hid (show Bx w11 (u4.heap.size + 1) az nz capz pz jz zz from by rw [← hw]; exact (Xg_10.out.under hb).set (by have q0 := SW.out; have q1 := BLT.out; have q2 := SZB.out; have q3 := SZC.out; have q4 := SZE.out; have q5 := SZ10.out; have q6 := SZ11.out; omega) (fun x hx9 hn9 => by have q98 := FZ.out.1 x hx9 hn9; have q99 := FZ.out.2 x hx9; have q0 := SW.out; have q1 := BLT.out; have q2 := SZB.out; have q3 := SZC.out; have q4 := SZE.out; have q5 := SZ10.out; have q6 := SZ11.out; omega) _ _ _)
            have Xl_11 := Lib.hid (show Bx w11 v10.heap.size a10 n10 cap10 p10 i10 z10 from by rw [← hw]; exact (Xl_10.out.under hb).set (by have q0 := SW.out; have q1 := BLT.out; have q2 := SZB.out; have q3 := SZC.out; have q4 := SZE.out; have q5 := SZ10.out; have q6 := SZ11.out; omega) (fun x hx9 hn9 => by have q98 := RF10.out.1 x hx9 hn9; have q99 := RF10.out.2 x hx9; have q0 := SW.out; have q1 := BLT.out; have q2 := SZB.out; have q3 := SZC.out; have q4 := SZE.out; have q5 := SZ10.out; have q6 := SZ11.out; omega) _ _ _)
            have HB_11 := Lib.hid (show Below W.heap.size W w11 by rw [← hw]; exact below_set3 (HB_10.out.trans (hb.mono HB_10.out.size)) (by have q0 := SW.out; have q1 := BLT.out; have q2 := SZB.out; have q3 := SZC.out; have q4 := SZE.out; have q5 := SZ10.out; have q6 := SZ11.out; have q97 := SW.out; omega) _ _ _)
            have hw11 := hw
            clear hb hw
            obtain ⟨c0, c1, c2, c3, c4, c5⟩ := Xf_11.out.box
            obtain ⟨d0, d1, d2, d3, d4, d5⟩ := Xg_11.out.box
            go_wp2_with fail
            try rw [hw11]
            clear hw11
            clear c0 c1 c2 c3 c4 c5 d0 d1 d2 d3 d4 d5
            clear y0 y1 y2 y3 y4 y5
            with_reducible refine ((cof_small ay ny capy zy py jy TY.out.1.good (by have := TY.out.2.2; omega) az nz capz zz pz jz TZ.out.1.good (by have := TZ.out.2.2; omega) _ Xf_11.out.row Xg_11.out.row).mono fun _ _ h => h.any).mono ?_
            rintro e v12 ⟨a12, n12, cap12, p12, i12, cd12, rfl, hb⟩
            obtain ⟨w12, hw⟩ : ∃ W, v12.alloc (.cells #[.slice a12 n12 cap12, .int .i64 p12, .int .i64 i12] 24) = W := ⟨_, rfl⟩
            have hz : Below w11.heap.size w11 w12 := by rw [← hw]; exact hb.trans ((below_box _).mono hb.size)
            have Xf_12 := Lib.hid (Xf_11.out.under hz)
            have Xg_12 := Lib.hid (Xg_11.out.under hz)
            have Xl_12 := Lib.hid (Xl_11.out.under hz)
            have HB_12 := Lib.hid (HB_11.out.trans (hz.mono HB_11.out.size))
            have Cc_12 := Lib.hid (show Cur3 w12 v12.heap.size (.slice a12 n12 cap12) (.int .i64 p12) (.int .i64 i12) by rw [← hw]; exact Cur3.new _ _ _ _ _)
            have SZ12 := Lib.hid (show v12.heap.size < w12.heap.size ∧ w11.heap.size ≤ v12.heap.size from ⟨by rw [← hw]; simp, hb.size⟩)
            have hw12 := hw
            clear hb hz hw
            go_wp2_with fail
            try rw [hw12]
            clear hw12
            go_wp2_with fail
            with_reducible refine (awake7 _).mono ?_
            rintro e w13 ⟨rfl, hb⟩
            have HBZ := Lib.hid (HB_12.out.trans (hb.mono HB_12.out.size))
            clear hb
            go_wp2_with fail
            go_ret
            exact ⟨rfl, HBZ.out⟩
      · have HBC := Lib.hid hb
        clear hb
        obtain ⟨c0, c1, c2, c3, c4, c5⟩ := Xf_2.out.box
        obtain ⟨d0, d1, d2, d3, d4, d5⟩ := Xh_2.out.box
        go_wp2_with fail
        try rw [hw2]
        clear hw2
        clear c0 c1 c2 c3 c4 c5 d0 d1 d2 d3 d4 d5
        with_reducible refine ((cof_day af nf capf zf pf jf GF.out.1 ad nd capd zd pd jd GF.out.2.2 DF.out.1 DF.out.2.2 _ Xf_2.out.row Xh_2.out.row).mono fun _ _ h => h.no HBC.out).mono ?_
        rintro e v3 ⟨rfl, hb⟩
        obtain ⟨w3, hw⟩ : ∃ W, v3.alloc (.cells #[.slice none 0 0, .int .i64 0, .int .i64 0] 24) = W := ⟨_, rfl⟩
        have hz : Below w2.heap.size w2 w3 := by rw [← hw]; exact hb.trans ((below_box _).mono hb.size)
        have Xf_3 := Lib.hid (Xf_2.out.under hz)
        have Xg_3 := Lib.hid (Xg_2.out.under hz)
        have Xh_3 := Lib.hid (Xh_2.out.under hz)
        have Xm_3 := Lib.hid (Xm_2.out.under hz)
        have Xa_3 := Lib.hid (Xa_2.out.under hz)
        have HB_3 := Lib.hid (HB_2.out.trans (hz.mono HB_2.out.size))
        have Xb_3 := Lib.hid (show Bx w3 v3.heap.size none 0 0 ((0 : Nat)) 0 [] by rw [← hw]; exact Bx.new (rowZ_none _))
        have HWK3 := Lib.hid hw
        have SZ3 := Lib.hid (show v3.heap.size < w3.heap.size ∧ w2.heap.size ≤ v3.heap.size from ⟨by rw [← hw]; simp, hb.size⟩)
        clear hb hz hw
        have Cf_4 := Lib.hid Xf_3.out.box
        have Cg_5 := Lib.hid Xg_3.out.box
        have Cb_6 := Lib.hid Xb_3.out.box
        go_upto_region 6 with fail
        try rw [HWK3.out]
        go_wp2_with fail
        have HSA := Lib.hid (src_under SR0.out HB_3.out)
        have HBA := Lib.hid (HB5.out.trans (HB_3.out.mono HB5.out.size))
        have BLT := Lib.hid (show v3.heap.size < w3.heap.size ∧ w0.heap.size ≤ v3.heap.size from ⟨Cb_6.out.lt, by have q97 := SW.out; have q0 := SZ1.out; have q1 := SZ2.out; have q2 := SZ3.out; omega⟩)
        refine (n_any 12 (by omega) (by omega) _ ra rn rc _ HSA.out).mono ?_
        rintro e ub ⟨rd, ⟨rd0, rd1⟩, rfl, hsb, heb⟩
        have HSB := Lib.hid hsb
        have HBB := Lib.hid (HBA.out.trans (heb.below (Nat.le_refl _)))
        obtain ⟨d, rfl⟩ := Int.eq_ofNat_of_zero_le rd0
        have HD12 := Lib.hid (show d ≤ 12 by omega)
        have CF1 := Lib.hid (Cf_4.out.apart heb.apart (by have := SW.out; omega))
        have CG1 := Lib.hid (Cg_5.out.apart heb.apart (by have := SW.out; omega))
        have CB1 := Lib.hid (Cb_6.out.apart heb.apart (by have := SW.out; have := BLT.out; omega))
        have SZB := Lib.hid (show w3.heap.size ≤ ub.heap.size from heb.apart.size)
        clear hsb heb rd0 rd1
        go_wp2_with fail
        refine (zero_any 4 (by omega) (by omega) _ ra rn rc _ HSB.out).mono ?_
        rintro e uc ⟨ay, ny, capy, zy, py, jy, rfl, hsc, hec, hrc, gy, hfy, h0y, smy, hxy⟩
        have HSC := Lib.hid hsc
        have HBC := Lib.hid (HBB.out.trans (hec.below (Nat.le_refl _) HBB.out.size))
        have TY := Lib.hid (And.intro (tiny_of gy hfy smy.1 smy.2.1 smy.2.2.1 smy.2.2.2) (And.intro h0y smy.2.1))
        have RY := Lib.hid hrc
        have QY := Lib.hid hxy
        have CF2 := Lib.hid (CF1.out.apart hec (by have := SW.out; omega))
        have CG2 := Lib.hid (CG1.out.apart hec (by have := SW.out; omega))
        have CB2 := Lib.hid (CB1.out.apart hec (by have := SW.out; have := BLT.out; omega))
        have SZC := Lib.hid (show ub.heap.size ≤ uc.heap.size from hec.size)
        clear hsc hec hrc gy hfy h0y smy hxy
        go_wp2_with fail
        refine (zero_any 4 (by omega) (by omega) _ ra rn rc _ HSC.out).mono ?_
        rintro e ud ⟨az, nz, capz, zz, pz, jz, rfl, hsd, hed, hrd, gz, hfz, h0z, smz, hxz⟩
        have hbd := HBC.out.trans (hed.below (Nat.le_refl _) HBC.out.size)
        have TZ := Lib.hid (And.intro (tiny_of gz hfz smz.1 smz.2.1 smz.2.2.1 smz.2.2.2) (And.intro h0z smz.2.1))
        have QZ := Lib.hid hxz
        have hcf := CF2.out.apart hed (by have := SW.out; omega)
        have hcg := CG2.out.apart hed (by have := SW.out; omega)
        have hcb := CB2.out.apart hed (by have := SW.out; have := BLT.out; omega)
        have hry := RY.out.apart hed (fun x hx => by have q1 := QY.out x hx; have q2 := SW.out; have q3 := BLT.out; have q4 := SZB.out; omega)
        have hsz := hed.size
        obtain ⟨we, hw⟩ : ∃ W, ((((((ud.setCell ⟨u4.heap.size, 0, none⟩ (.slice ay ny capy)).setCell ⟨u4.heap.size, 1, none⟩ (.int .i64 py)).setCell ⟨u4.heap.size, 2, none⟩ (.int .i64 jy)).setCell ⟨u4.heap.size + 1, 0, none⟩ (.slice az nz capz)).setCell ⟨u4.heap.size + 1, 1, none⟩ (.int .i64 pz)).setCell ⟨u4.heap.size + 1, 2, none⟩ (.int .i64 jz)) = W := ⟨_, rfl⟩
        have NY := Lib.hid (show (∀ G, G < ub.heap.size → ∀ x, ay = some x → 1 ≤ ny → x.block ≠ G) ∧ ∀ G, G < uc.heap.size → ∀ x, az = some x → 1 ≤ nz → x.block ≠ G from ⟨fun G hG x hx _ => by have := QY.out x hx; omega, fun G hG x hx _ => by have := hxz x hx; omega⟩)
        have HLT := Lib.hid (show u4.heap.size + 1 < ub.heap.size ∧ u4.heap.size + 1 < uc.heap.size by have q1 := SW.out; have q2 := SZB.out; have q3 := SZC.out; have q4 := BLT.out; omega)
        have Xf_e := Lib.hid (show Bx we u4.heap.size ay ny capy py jy zy by rw [← hw]; exact (Bx.lay hcf hry (NY.out.1 _ (by have := HLT.out; omega))).set (by omega) (NY.out.1 _ (by have := HLT.out; omega)) _ _ _)
        have Xg_e := Lib.hid (show Bx we (u4.heap.size + 1) az nz capz pz jz zz by rw [← hw]; exact Bx.lay (((hcg.other (by omega) _ _).other (by omega) _ _).other (by omega) _ _) (((hrd.store (NY.out.2 _ (by have := HLT.out; omega)) _ _).store (NY.out.2 _ (by have := HLT.out; omega)) _ _).store (NY.out.2 _ (by have := HLT.out; omega)) _ _) (NY.out.2 _ (by have := HLT.out; omega)))
        have BNE := Lib.hid (show ¬ v3.heap.size = u4.heap.size ∧ ¬ v3.heap.size = u4.heap.size + 1 by have q1 := SW.out; have q2 := BLT.out; omega)
        have Cb_e := Lib.hid (show Cur3 we v3.heap.size _ _ _ by rw [← hw]; exact (((((hcb.other BNE.out.1 _ _).other BNE.out.1 _ _).other BNE.out.1 _ _).other BNE.out.2 _ _).other BNE.out.2 _ _).other BNE.out.2 _ _)
        have HB_e := Lib.hid (show Below W.heap.size W we by rw [← hw]; exact below_set3 (below_set3 hbd (by have := SW.out; omega) _ _ _) (by have := SW.out; omega) _ _ _)
        have SZE := Lib.hid (show v3.heap.size < we.heap.size ∧ we.heap.size = ud.heap.size ∧ uc.heap.size ≤ ud.heap.size from ⟨by have q1 := BLT.out; have q2 := SZB.out; have q3 := SZC.out; rw [← hw]; simp [World.setCell]; omega, by rw [← hw]; simp [World.setCell], hsz⟩)
        have FY := Lib.hid (show (∀ x, ay = some x → 1 ≤ ny → x.block < we.heap.size) ∧ ∀ x, ay = some x → ub.heap.size ≤ x.block from ⟨fun x hx hn => by have := hry.far x hx hn; have := SZE.out; omega, QY.out⟩)
        have FZ := Lib.hid (show (∀ x, az = some x → 1 ≤ nz → x.block < we.heap.size) ∧ ∀ x, az = some x → uc.heap.size ≤ x.block from ⟨fun x hx hn => by have := hrd.far x hx hn; have := SZE.out; omega, QZ.out⟩)
        obtain ⟨c0, c1, c2, c3, c4, c5⟩ := hcf
        obtain ⟨d0, d1, d2, d3, d4, d5⟩ := hcg
        have hw9 := hw
        clear hsd hed hrd gz hfz h0z smz hxz hbd hcb hry hsz hw
        go_upto_region 13 with fail
        try rw [hw9]
        clear hw9 c0 c1 c2 c3 c4 c5 d0 d1 d2 d3 d4 d5
        obtain ⟨c0, c1, c2, c3, c4, c5⟩ := Xf_e.out.box
        go_wp2_with fail
        clear c0 c1 c2 c3 c4 c5
        with_reducible refine ((rlater_ok ay ny capy zy py jy TY.out.1.good (d : Int) d rfl (by have := HD12.out; omega) _ Xf_e.out.row).mono fun _ _ h => h.ok (later_can TY.out.1 (by have := HD12.out; omega))).mono ?_
        rintro e v8 ⟨a8, n8, cap8, z8, p8, i8, rfl, hb, hr, hf, hx⟩
        obtain ⟨w8, hw⟩ : ∃ W, v8.alloc (.cells #[.slice a8 n8 cap8, .int .i64 p8, .int .i64 i8] 24) = W := ⟨_, rfl⟩
        have hz : Below we.heap.size we w8 := by rw [← hw]; exact hb.trans ((below_box _).mono hb.size)
        have Cb_8 := Lib.hid (Cb_e.out.below hz)
        have Xf_8 := Lib.hid (Xf_e.out.under hz)
        have Xg_8 := Lib.hid (Xg_e.out.under hz)
        have HB_8 := Lib.hid (HB_e.out.trans (hz.mono HB_e.out.size))
        have Xl_8 := Lib.hid (show Bx w8 v8.heap.size a8 n8 cap8 p8 i8 z8 by rw [← hw]; exact Bx.new hr)
        have HFl := Lib.hid hf
        have hw8 := hw
        have SZ8 := Lib.hid (show v8.heap.size < w8.heap.size ∧ we.heap.size ≤ v8.heap.size from ⟨by rw [← hw]; simp, hb.size⟩)
        have RF8 := Lib.hid (And.intro hr.far hx)
        clear hb hr hf hx hz hw
        have PL := Lib.hid (show p8 ≤ 8 by have q1 := eform_per TY.out.1.good (later_per9 TY.out.1.good d) HFl.out; have q2 := TY.out.2.2; omega)
        have EQ := Lib.hid (show eConv z8 p8 i8 zz pz jz = laterF d (eConv zy py jy zz pz jz) from conv_late0 TY.out.1.good TZ.out.1.good TY.out.1.fin TZ.out.1.fin TY.out.2.1 TZ.out.2.1 HFl.out.val)
        by_cases hj : ECan (eConv z8 p8 i8 zz pz jz)
        · have HJ := Lib.hid hj
          clear hj
          obtain ⟨c0, c1, c2, c3, c4, c5⟩ := Xl_8.out.box
          obtain ⟨d0, d1, d2, d3, d4, d5⟩ := Xg_8.out.box
          go_wp2_with fail
          try rw [hw8]
          clear hw8
          clear c0 c1 c2 c3 c4 c5 d0 d1 d2 d3 d4 d5
          with_reducible refine ((cof_small a8 n8 cap8 z8 p8 i8 HFl.out.good (by have := PL.out; omega) az nz capz zz pz jz TZ.out.1.good (by have := TZ.out.2.2; omega) _ Xl_8.out.row Xg_8.out.row).mono fun _ _ h => h.ok HJ.out).mono ?_
          rintro e v9 ⟨a9, n9, cap9, z9, p9, i9, rfl, hb, hr, hf, hx⟩
          have HFb2 := Lib.hid hf
          have RF9 := Lib.hid (And.intro hr.far hx)
          obtain ⟨w9, hw⟩ : ∃ W, (((v9.setCell ⟨v3.heap.size, 0, none⟩ (.slice a9 n9 cap9)).setCell ⟨v3.heap.size, 1, none⟩ (.int .i64 p9)).setCell ⟨v3.heap.size, 2, none⟩ (.int .i64 i9)) = W := ⟨_, rfl⟩
          have SZ9 := Lib.hid (show w9.heap.size = v9.heap.size ∧ w8.heap.size ≤ v9.heap.size from ⟨by rw [← hw]; simp [World.setCell], hb.size⟩)
          obtain ⟨y0, y1, y2, y3, y4, y5⟩ := Cb_8.out.below hb
          have Xf_9 := Lib.hid (show Bx w9 u4.heap.size ay ny capy py jy zy from by rw [← hw]; exact (Xf_8.out.under hb).set (by have q0 := SW.out; have q1 := BLT.out; have q2 := SZB.out; have q3 := SZC.out; have q4 := SZE.out; have q5 := SZ8.out; have q6 := SZ9.out; omega) (fun x hx9 hn9 => by have q98 := FY.out.1 x hx9 hn9; have q99 := FY.out.2 x hx9; have q0 := SW.out; have q1 := BLT.out; have q2 := SZB.out; have q3 := SZC.out; have q4 := SZE.out; have q5 := SZ8.out; have q6 := SZ9.out; omega) _ _ _)
          have Xg_9 := Lib.hid (show Bx w9 (u4.heap.size + 1) az nz capz pz jz zz from by rw [← hw]; exact (Xg_8.out.under hb).set (by have q0 := SW.out; have q1 := BLT.out; have q2 := SZB.out; have q3 := SZC.out; have q4 := SZE.out; have q5 := SZ8.out; have q6 := SZ9.out; omega) (fun x hx9 hn9 => by have q98 := FZ.out.1 x hx9 hn9; have q99 := FZ.out.2 x hx9; have q0 := SW.out; have q1 := BLT.out; have q2 := SZB.out; have q3 := SZC.out; have q4 := SZE.out; have q5 := SZ8.out; have q6 := SZ9.out; omega) _ _ _)
          have Xl_9 := Lib.hid (show Bx w9 v8.heap.size a8 n8 cap8 p8 i8 z8 from by rw [← hw]; exact (Xl_8.out.under hb).set (by have q0 := SW.out; have q1 := BLT.out; have q2 := SZB.out; have q3 := SZC.out; have q4 := SZE.out; have q5 := SZ8.out; have q6 := SZ9.out; omega) (fun x hx9 hn9 => by have q98 := RF8.out.1 x hx9 hn9; have q99 := RF8.out.2 x hx9; have q0 := SW.out; have q1 := BLT.out; have q2 := SZB.out; have q3 := SZC.out; have q4 := SZE.out; have q5 := SZ8.out; have q6 := SZ9.out; omega) _ _ _)
          have Xb_9 := Lib.hid (show Bx w9 v3.heap.size a9 n9 cap9 p9 i9 z9 by rw [← hw]; exact Bx.lay (Cb_8.out.below hb) hr (fun x hx9 hn9 => by have q99 := RF9.out.2 x hx9; have q0 := SW.out; have q1 := BLT.out; have q2 := SZB.out; have q3 := SZC.out; have q4 := SZE.out; have q5 := SZ8.out; have q6 := SZ9.out; omega))
          have HB_9 := Lib.hid (show Below W.heap.size W w9 by rw [← hw]; exact below_set3 (HB_8.out.trans (hb.mono HB_8.out.size)) (by have q0 := SW.out; have q1 := BLT.out; have q2 := SZB.out; have q3 := SZC.out; have q4 := SZE.out; have q5 := SZ8.out; have q6 := SZ9.out; have q97 := SW.out; omega) _ _ _)
          have hw9 := hw
          clear hb hw hr hf hx
          by_cases hn : ECan (eConv zy py jy zz pz jz)
          · have HN := Lib.hid hn
            clear hn
            obtain ⟨c0, c1, c2, c3, c4, c5⟩ := Xf_9.out.box
            obtain ⟨d0, d1, d2, d3, d4, d5⟩ := Xg_9.out.box
            go_wp2_with fail
            try rw [hw9]
            clear hw9
            clear c0 c1 c2 c3 c4 c5 d0 d1 d2 d3 d4 d5
            with_reducible refine ((cof_small ay ny capy zy py jy TY.out.1.good (by have := TY.out.2.2; omega) az nz capz zz pz jz TZ.out.1.good (by have := TZ.out.2.2; omega) _ Xf_9.out.row Xg_9.out.row).mono fun _ _ h => h.ok HN.out).mono ?_
            rintro e v10 ⟨a10, n10, cap10, z10, p10, i10, rfl, hb, hr, hf, hx⟩
            obtain ⟨w10, hw⟩ : ∃ W, v10.alloc (.cells #[.slice a10 n10 cap10, .int .i64 p10, .int .i64 i10] 24) = W := ⟨_, rfl⟩
            have hz : Below w9.heap.size w9 w10 := by rw [← hw]; exact hb.trans ((below_box _).mono hb.size)
            have Xf_10 := Lib.hid (Xf_9.out.under hz)
            have Xg_10 := Lib.hid (Xg_9.out.under hz)
            have Xl_10 := Lib.hid (Xl_9.out.under hz)
            have Xb_10 := Lib.hid (Xb_9.out.under hz)
            have HB_10 := Lib.hid (HB_9.out.trans (hz.mono HB_9.out.size))
            have Xc_10 := Lib.hid (show Bx w10 v10.heap.size a10 n10 cap10 p10 i10 z10 by rw [← hw]; exact Bx.new hr)
            have HFc := Lib.hid hf
            have hw10 := hw
            have SZ10 := Lib.hid (show v10.heap.size < w10.heap.size ∧ w9.heap.size ≤ v10.heap.size from ⟨by rw [← hw]; simp, hb.size⟩)
            have RF10 := Lib.hid (And.intro hr.far hx)
            clear hb hr hf hx hz hw
            have OKC := Lib.hid ((okC_iff z10 p10 i10).2 HFc.out.good)
            have C64 := Lib.hid (show In64 (p10 : Int) ∧ In64 i10 from ⟨⟨by omega, by have q1 := HFc.out.good.few; have q2 := HFc.out.good.p3; omega⟩, by have q1 := HFc.out.good.i0; omega, by have q1 := HFc.out.good.i1; omega⟩)
            obtain ⟨c0, c1, c2, c3, c4, c5⟩ := Xc_10.out.box
            go_wp2_with fail
            try rw [hw10]
            clear hw10
            clear c0 c1 c2 c3 c4 c5
            with_reducible refine (rvalid_any a10 n10 cap10 z10 p10 i10 C64.out.1 C64.out.2 true OKC.out _ Xc_10.out.row).mono ?_
            rintro e w11 ⟨rfl, hb⟩
            have Xf_11 := Lib.hid (Xf_10.out.under hb)
            have Xg_11 := Lib.hid (Xg_10.out.under hb)
            have Xl_11 := Lib.hid (Xl_10.out.under hb)
            have Xb_11 := Lib.hid (Xb_10.out.under hb)
            have Xc_11 := Lib.hid (Xc_10.out.under hb)
            have HB_11 := Lib.hid (HB_10.out.trans (hb.mono HB_10.out.size))
            have SY11 := Lib.hid hb.size
            clear hb
            have EQ2 := Lib.hid (show eLater d z10 p10 i10 = eConv z8 p8 i8 zz pz jz by rw [EQ.out, eLater_F, funext HFc.out.val])
            obtain ⟨c0, c1, c2, c3, c4, c5⟩ := Xc_11.out.box
            go_wp2_with fail
            clear c0 c1 c2 c3 c4 c5
            with_reducible refine ((rlater_ok a10 n10 cap10 z10 p10 i10 HFc.out.good (d : Int) d rfl (by have := HD12.out; omega) _ Xc_11.out.row).mono fun _ _ h => h.ok (by rw [EQ2.out]; exact HJ.out)).mono ?_
            rintro e v12 ⟨a12, n12, cap12, z12, p12, i12, rfl, hb, hr, hf, hx⟩
            obtain ⟨w12, hw⟩ : ∃ W, v12.alloc (.cells #[.slice a12 n12 cap12, .int .i64 p12, .int .i64 i12] 24) = W := ⟨_, rfl⟩
            have hz : Below w11.heap.size w11 w12 := by rw [← hw]; exact hb.trans ((below_box _).mono hb.size)
            have Xf_12 := Lib.hid (Xf_11.out.under hz)
            have Xg_12 := Lib.hid (Xg_11.out.under hz)
            have Xl_12 := Lib.hid (Xl_11.out.under hz)
            have Xb_12 := Lib.hid (Xb_11.out.under hz)
            have Xc_12 := Lib.hid (Xc_11.out.under hz)
            have HB_12 := Lib.hid (HB_11.out.trans (hz.mono HB_11.out.size))
            have Xx_12 := Lib.hid (show Bx w12 v12.heap.size a12 n12 cap12 p12 i12 z12 by rw [← hw]; exact Bx.new hr)
            have HFx := Lib.hid hf
            have hw12 := hw
            have SZ12 := Lib.hid (show v12.heap.size < w12.heap.size ∧ w11.heap.size ≤ v12.heap.size from ⟨by rw [← hw]; simp, hb.size⟩)
            have RF12 := Lib.hid (And.intro hr.far hx)
            clear hb hr hf hx hz hw
            have HFx2 := Lib.hid (show EForm z12 p12 i12 (eConv z8 p8 i8 zz pz jz) by have := HFx.out; rwa [EQ2.out] at this)
            obtain ⟨c0, c1, c2, c3, c4, c5⟩ := Xx_12.out.box
            obtain ⟨d0, d1, d2, d3, d4, d5⟩ := Xb_12.out.box
            go_wp2_with fail
            try rw [hw12]
            clear hw12
            clear c0 c1 c2 c3 c4 c5 d0 d1 d2 d3 d4 d5
            with_reducible refine (same_at HFx2.out HFb2.out _ Xx_12.out.row Xb_12.out.row).mono ?_
            rintro e w13 ⟨rfl, hb⟩
            have Xf_13 := Lib.hid (Xf_12.out.under hb)
            have Xg_13 := Lib.hid (Xg_12.out.under hb)
            have Xl_13 := Lib.hid (Xl_12.out.under hb)
            have Xb_13 := Lib.hid (Xb_12.out.under hb)
            have Xc_13 := Lib.hid (Xc_12.out.under hb)
            have Xx_13 := Lib.hid (Xx_12.out.under hb)
            have HB_13 := Lib.hid (HB_12.out.trans (hb.mono HB_12.out.size))
            have SY13 := Lib.hid hb.size
            clear hb
            go_wp2_with fail
            with_reducible refine (awake7 _).mono ?_
            rintro e w14 ⟨rfl, hb⟩
            have HBZ := Lib.hid (HB_13.out.trans (hb.mono HB_13.out.size))
            clear hb
            go_wp2_with fail
            go_ret
            exact ⟨rfl, HBZ.out⟩
          · have HN := Lib.hid hn
            clear hn
            obtain ⟨c0, c1, c2, c3, c4, c5⟩ := Xf_9.out.box
            obtain ⟨d0, d1, d2, d3, d4, d5⟩ := Xg_9.out.box
            go_wp2_with fail
            try rw [hw9]
            clear hw9
            clear c0 c1 c2 c3 c4 c5 d0 d1 d2 d3 d4 d5
            with_reducible refine ((cof_small ay ny capy zy py jy TY.out.1.good (by have := TY.out.2.2; omega) az nz capz zz pz jz TZ.out.1.good (by have := TZ.out.2.2; omega) _ Xf_9.out.row Xg_9.out.row).mono fun _ _ h => h.no HN.out).mono ?_
            rintro e v10 ⟨rfl, hb⟩
            obtain ⟨w10, hw⟩ : ∃ W, v10.alloc (.cells #[.slice none 0 0, .int .i64 0, .int .i64 0] 24) = W := ⟨_, rfl⟩
            have hz : Below w9.heap.size w9 w10 := by rw [← hw]; exact hb.trans ((below_box _).mono hb.size)
            have Xf_10 := Lib.hid (Xf_9.out.under hz)
            have Xg_10 := Lib.hid (Xg_9.out.under hz)
            have Xl_10 := Lib.hid (Xl_9.out.under hz)
            have Xb_10 := Lib.hid (Xb_9.out.under hz)
            have HB_10 := Lib.hid (HB_9.out.trans (hz.mono HB_9.out.size))
            have Xc_10 := Lib.hid (show Bx w10 v10.heap.size none 0 0 ((0 : Nat)) 0 [] by rw [← hw]; exact Bx.new (rowZ_none _))
            have HWK10 := Lib.hid hw
            have SZ10 := Lib.hid (show v10.heap.size < w10.heap.size ∧ w9.heap.size ≤ v10.heap.size from ⟨by rw [← hw]; simp, hb.size⟩)
            clear hb hz hw
            go_upto_region 16 with fail
            try rw [HWK10.out]
            go_wp2_with fail
            with_reducible refine (awake7 _).mono ?_
            rintro e w11 ⟨rfl, hb⟩
            have HBZ := Lib.hid (HB_10.out.trans (hb.mono HB_10.out.size))
            clear hb
            go_wp2_with fail
            go_ret
            exact ⟨rfl, HBZ.out⟩
        · have HJ := Lib.hid hj
          clear hj
          obtain ⟨c0, c1, c2, c3, c4, c5⟩ := Xl_8.out.box
          obtain ⟨d0, d1, d2, d3, d4, d5⟩ := Xg_8.out.box
          go_wp2_with fail
          try rw [hw8]
          clear hw8
          clear c0 c1 c2 c3 c4 c5 d0 d1 d2 d3 d4 d5
          with_reducible refine ((cof_small a8 n8 cap8 z8 p8 i8 HFl.out.good (by have := PL.out; omega) az nz capz zz pz jz TZ.out.1.good (by have := TZ.out.2.2; omega) _ Xl_8.out.row Xg_8.out.row).mono fun _ _ h => h.no HJ.out).mono ?_
          rintro e v9 ⟨rfl, hb⟩
          obtain ⟨w9, hw⟩ : ∃ W, (((v9.setCell ⟨v3.heap.size, 0, none⟩ (.slice none 0 0)).setCell ⟨v3.heap.size, 1, none⟩ (.int .i64 0)).setCell ⟨v3.heap.size, 2, none⟩ (.int .i64 0)) = W := ⟨_, rfl⟩
          have SZ9 := Lib.hid (show w9.heap.size = v9.heap.size ∧ w8.heap.size ≤ v9.heap.size from ⟨by rw [← hw]; simp [World.setCell], hb.size⟩)
          obtain ⟨y0, y1, y2, y3, y4, y5⟩ := Cb_8.out.below hb
          have Xf_9 := Lib.hid (show Bx w9 u4.heap.size ay ny capy py jy zy from by rw [← hw]; exact (Xf_8.out.under hb).set (by have q0 := SW.out; have q1 := BLT.out; have q2 := SZB.out; have q3 := SZC.out; have q4 := SZE.out; have q5 := SZ8.out; have q6 := SZ9.out; omega) (fun x hx9 hn9 => by have q98 := FY.out.1 x hx9 hn9; have q99 := FY.out.2 x hx9; have q0 := SW.out; have q1 := BLT.out; have q2 := SZB.out; have q3 := SZC.out; have q4 := SZE.out; have q5 := SZ8.out; have q6 := SZ9.out; omega) _ _ _)
          have Xg_9 := Lib.hid (show Bx w9 (u4.heap.size + 1) az nz capz pz jz zz from by rw [← hw]; exact (Xg_8.out.under hb).set (by have q0 := SW.out; have q1 := BLT.out; have q2 := SZB.out; have q3 := SZC.out; have q4 := SZE.out; have q5 := SZ8.out; have q6 := SZ9.out; omega) (fun x hx9 hn9 => by have q98 := FZ.out.1 x hx9 hn9; have q99 := FZ.out.2 x hx9; have q0 := SW.out; have q1 := BLT.out; have q2 := SZB.out; have q3 := SZC.out; have q4 := SZE.out; have q5 := SZ8.out; have q6 := SZ9.out; omega) _ _ _)
          have Xl_9 := Lib.hid (show Bx w9 v8.heap.size a8 n8 cap8 p8 i8 z8 from by rw [← hw]; exact (Xl_8.out.under hb).set (by have q0 := SW.out; have q1 := BLT.out; have q2 := SZB.out; have q3 := SZC.out; have q4 := SZE.out; have q5 := SZ8.out; have q6 := SZ9.out; omega) (fun x hx9 hn9 => by have q98 := RF8.out.1 x hx9 hn9; have q99 := RF8.out.2 x hx9; have q0 := SW.out; have q1 := BLT.out; have q2 := SZB.out; have q3 := SZC.out; have q4 := SZE.out; have q5 := SZ8.out; have q6 := SZ9.out; omega) _ _ _)
          have HB_9 := Lib.hid (show Below W.heap.size W w9 by rw [← hw]; exact below_set3 (HB_8.out.trans (hb.mono HB_8.out.size)) (by have q0 := SW.out; have q1 := BLT.out; have q2 := SZB.out; have q3 := SZC.out; have q4 := SZE.out; have q5 := SZ8.out; have q6 := SZ9.out; have q97 := SW.out; omega) _ _ _)
          have hw9 := hw
          clear hb hw
          obtain ⟨c0, c1, c2, c3, c4, c5⟩ := Xf_9.out.box
          obtain ⟨d0, d1, d2, d3, d4, d5⟩ := Xg_9.out.box
          go_wp2_with fail
          try rw [hw9]
          clear hw9
          clear c0 c1 c2 c3 c4 c5 d0 d1 d2 d3 d4 d5
          clear y0 y1 y2 y3 y4 y5
          with_reducible refine ((cof_small ay ny capy zy py jy TY.out.1.good (by have := TY.out.2.2; omega) az nz capz zz pz jz TZ.out.1.good (by have := TZ.out.2.2; omega) _ Xf_9.out.row Xg_9.out.row).mono fun _ _ h => h.any).mono ?_
          rintro e v10 ⟨a10, n10, cap10, p10, i10, cd10, rfl, hb⟩
          obtain ⟨w10, hw⟩ : ∃ W, v10.alloc (.cells #[.slice a10 n10 cap10, .int .i64 p10, .int .i64 i10] 24) = W := ⟨_, rfl⟩
          have hz : Below w9.heap.size w9 w10 := by rw [← hw]; exact hb.trans ((below_box _).mono hb.size)
          have Xf_10 := Lib.hid (Xf_9.out.under hz)
          have Xg_10 := Lib.hid (Xg_9.out.under hz)
          have Xl_10 := Lib.hid (Xl_9.out.under hz)
          have HB_10 := Lib.hid (HB_9.out.trans (hz.mono HB_9.out.size))
          have Cc_10 := Lib.hid (show Cur3 w10 v10.heap.size (.slice a10 n10 cap10) (.int .i64 p10) (.int .i64 i10) by rw [← hw]; exact Cur3.new _ _ _ _ _)
          have SZ10 := Lib.hid (show v10.heap.size < w10.heap.size ∧ w9.heap.size ≤ v10.heap.size from ⟨by rw [← hw]; simp, hb.size⟩)
          have hw10 := hw
          clear hb hz hw
          go_wp2_with fail
          try rw [hw10]
          clear hw10
          go_wp2_with fail
          with_reducible refine (awake7 _).mono ?_
          rintro e w11 ⟨rfl, hb⟩
          have HBZ := Lib.hid (HB_10.out.trans (hb.mono HB_10.out.size))
          clear hb
          go_wp2_with fail
          go_ret
          exact ⟨rfl, HBZ.out⟩
    · have HA := Lib.hid ha
      clear ha
      obtain ⟨c0, c1, c2, c3, c4, c5⟩ := Xf_1.out.box
      obtain ⟨d0, d1, d2, d3, d4, d5⟩ := Xg_1.out.box
      go_wp2_with fail
      try rw [hw1]
      clear hw1
      clear c0 c1 c2 c3 c4 c5 d0 d1 d2 d3 d4 d5
      with_reducible refine ((cof_day af nf capf zf pf jf GF.out.1 ag ng capg zg pg jg GF.out.2.1 DF.out.1 DF.out.2.1 _ Xf_1.out.row Xg_1.out.row).mono fun _ _ h => h.no HA.out).mono ?_
      rintro e v2 ⟨rfl, hb⟩
      obtain ⟨w2, hw⟩ : ∃ W, v2.alloc (.cells #[.slice none 0 0, .int .i64 0, .int .i64 0] 24) = W := ⟨_, rfl⟩
      have hz : Below w1.heap.size w1 w2 := by rw [← hw]; exact hb.trans ((below_box _).mono hb.size)
      have Xf_2 := Lib.hid (Xf_1.out.under hz)
      have Xg_2 := Lib.hid (Xg_1.out.under hz)
      have Xh_2 := Lib.hid (Xh_1.out.under hz)
      have Xm_2 := Lib.hid (Xm_1.out.under hz)
      have HB_2 := Lib.hid (HB_1.out.trans (hz.mono HB_1.out.size))
      have Xa_2 := Lib.hid (show Bx w2 v2.heap.size none 0 0 ((0 : Nat)) 0 [] by rw [← hw]; exact Bx.new (rowZ_none _))
      have HWK2 := Lib.hid hw
      have SZ2 := Lib.hid (show v2.heap.size < w2.heap.size ∧ w1.heap.size ≤ v2.heap.size from ⟨by rw [← hw]; simp, hb.size⟩)
      clear hb hz hw
      obtain ⟨c0, c1, c2, c3, c4, c5⟩ := Xf_2.out.box
      obtain ⟨d0, d1, d2, d3, d4, d5⟩ := Xh_2.out.box
      go_upto_region 5 with fail
      try rw [HWK2.out]
      go_wp2_with fail
      clear c0 c1 c2 c3 c4 c5 d0 d1 d2 d3 d4 d5
      with_reducible refine ((cof_day af nf capf zf pf jf GF.out.1 ad nd capd zd pd jd GF.out.2.2 DF.out.1 DF.out.2.2 _ Xf_2.out.row Xh_2.out.row).mono fun _ _ h => h.any).mono ?_
      rintro e v3 ⟨a3, n3, cap3, p3, i3, cd3, rfl, hb⟩
      obtain ⟨w3, hw⟩ : ∃ W, v3.alloc (.cells #[.slice a3 n3 cap3, .int .i64 p3, .int .i64 i3] 24) = W := ⟨_, rfl⟩
      have hz : Below w2.heap.size w2 w3 := by rw [← hw]; exact hb.trans ((below_box _).mono hb.size)
      have Xf_3 := Lib.hid (Xf_2.out.under hz)
      have Xg_3 := Lib.hid (Xg_2.out.under hz)
      have Xh_3 := Lib.hid (Xh_2.out.under hz)
      have Xm_3 := Lib.hid (Xm_2.out.under hz)
      have Xa_3 := Lib.hid (Xa_2.out.under hz)
      have HB_3 := Lib.hid (HB_2.out.trans (hz.mono HB_2.out.size))
      have Cb_3 := Lib.hid (show Cur3 w3 v3.heap.size (.slice a3 n3 cap3) (.int .i64 p3) (.int .i64 i3) by rw [← hw]; exact Cur3.new _ _ _ _ _)
      have SZ3 := Lib.hid (show v3.heap.size < w3.heap.size ∧ w2.heap.size ≤ v3.heap.size from ⟨by rw [← hw]; simp, hb.size⟩)
      have hw3 := hw
      clear hb hz hw
      have Cf_4 := Lib.hid Xf_3.out.box
      have Cg_5 := Lib.hid Xg_3.out.box
      go_wp2_with fail
      try rw [hw3]
      clear hw3
      have HSA := Lib.hid (src_under SR0.out HB_3.out)
      have HBA := Lib.hid (HB5.out.trans (HB_3.out.mono HB5.out.size))
      have BLT := Lib.hid (show v3.heap.size < w3.heap.size ∧ w0.heap.size ≤ v3.heap.size from ⟨Cb_3.out.lt, by have q97 := SW.out; have q0 := SZ1.out; have q1 := SZ2.out; have q2 := SZ3.out; omega⟩)
      refine (n_any 12 (by omega) (by omega) _ ra rn rc _ HSA.out).mono ?_
      rintro e ub ⟨rd, ⟨rd0, rd1⟩, rfl, hsb, heb⟩
      have HSB := Lib.hid hsb
      have HBB := Lib.hid (HBA.out.trans (heb.below (Nat.le_refl _)))
      obtain ⟨d, rfl⟩ := Int.eq_ofNat_of_zero_le rd0
      have HD12 := Lib.hid (show d ≤ 12 by omega)
      have CF1 := Lib.hid (Cf_4.out.apart heb.apart (by have := SW.out; omega))
      have CG1 := Lib.hid (Cg_5.out.apart heb.apart (by have := SW.out; omega))
      have CB1 := Lib.hid (Cb_3.out.apart heb.apart (by have := SW.out; have := BLT.out; omega))
      have SZB := Lib.hid (show w3.heap.size ≤ ub.heap.size from heb.apart.size)
      clear hsb heb rd0 rd1
      go_wp2_with fail
      refine (zero_any 4 (by omega) (by omega) _ ra rn rc _ HSB.out).mono ?_
      rintro e uc ⟨ay, ny, capy, zy, py, jy, rfl, hsc, hec, hrc, gy, hfy, h0y, smy, hxy⟩
      have HSC := Lib.hid hsc
      have HBC := Lib.hid (HBB.out.trans (hec.below (Nat.le_refl _) HBB.out.size))
      have TY := Lib.hid (And.intro (tiny_of gy hfy smy.1 smy.2.1 smy.2.2.1 smy.2.2.2) (And.intro h0y smy.2.1))
      have RY := Lib.hid hrc
      have QY := Lib.hid hxy
      have CF2 := Lib.hid (CF1.out.apart hec (by have := SW.out; omega))
      have CG2 := Lib.hid (CG1.out.apart hec (by have := SW.out; omega))
      have CB2 := Lib.hid (CB1.out.apart hec (by have := SW.out; have := BLT.out; omega))
      have SZC := Lib.hid (show ub.heap.size ≤ uc.heap.size from hec.size)
      clear hsc hec hrc gy hfy h0y smy hxy
      go_wp2_with fail
      refine (zero_any 4 (by omega) (by omega) _ ra rn rc _ HSC.out).mono ?_
      rintro e ud ⟨az, nz, capz, zz, pz, jz, rfl, hsd, hed, hrd, gz, hfz, h0z, smz, hxz⟩
      have hbd := HBC.out.trans (hed.below (Nat.le_refl _) HBC.out.size)
      have TZ := Lib.hid (And.intro (tiny_of gz hfz smz.1 smz.2.1 smz.2.2.1 smz.2.2.2) (And.intro h0z smz.2.1))
      have QZ := Lib.hid hxz
      have hcf := CF2.out.apart hed (by have := SW.out; omega)
      have hcg := CG2.out.apart hed (by have := SW.out; omega)
      have hcb := CB2.out.apart hed (by have := SW.out; have := BLT.out; omega)
      have hry := RY.out.apart hed (fun x hx => by have q1 := QY.out x hx; have q2 := SW.out; have q3 := BLT.out; have q4 := SZB.out; omega)
      have hsz := hed.size
      obtain ⟨we, hw⟩ : ∃ W, ((((((ud.setCell ⟨u4.heap.size, 0, none⟩ (.slice ay ny capy)).setCell ⟨u4.heap.size, 1, none⟩ (.int .i64 py)).setCell ⟨u4.heap.size, 2, none⟩ (.int .i64 jy)).setCell ⟨u4.heap.size + 1, 0, none⟩ (.slice az nz capz)).setCell ⟨u4.heap.size + 1, 1, none⟩ (.int .i64 pz)).setCell ⟨u4.heap.size + 1, 2, none⟩ (.int .i64 jz)) = W := ⟨_, rfl⟩
      have NY := Lib.hid (show (∀ G, G < ub.heap.size → ∀ x, ay = some x → 1 ≤ ny → x.block ≠ G) ∧ ∀ G, G < uc.heap.size → ∀ x, az = some x → 1 ≤ nz → x.block ≠ G from ⟨fun G hG x hx _ => by have := QY.out x hx; omega, fun G hG x hx _ => by have := hxz x hx; omega⟩)
      have HLT := Lib.hid (show u4.heap.size + 1 < ub.heap.size ∧ u4.heap.size + 1 < uc.heap.size by have q1 := SW.out; have q2 := SZB.out; have q3 := SZC.out; have q4 := BLT.out; omega)
      have Xf_e := Lib.hid (show Bx we u4.heap.size ay ny capy py jy zy by rw [← hw]; exact (Bx.lay hcf hry (NY.out.1 _ (by have := HLT.out; omega))).set (by omega) (NY.out.1 _ (by have := HLT.out; omega)) _ _ _)
      have Xg_e := Lib.hid (show Bx we (u4.heap.size + 1) az nz capz pz jz zz by rw [← hw]; exact Bx.lay (((hcg.other (by omega) _ _).other (by omega) _ _).other (by omega) _ _) (((hrd.store (NY.out.2 _ (by have := HLT.out; omega)) _ _).store (NY.out.2 _ (by have := HLT.out; omega)) _ _).store (NY.out.2 _ (by have := HLT.out; omega)) _ _) (NY.out.2 _ (by have := HLT.out; omega)))
      have BNE := Lib.hid (show ¬ v3.heap.size = u4.heap.size ∧ ¬ v3.heap.size = u4.heap.size + 1 by have q1 := SW.out; have q2 := BLT.out; omega)
      have Cb_e := Lib.hid (show Cur3 we v3.heap.size _ _ _ by rw [← hw]; exact (((((hcb.other BNE.out.1 _ _).other BNE.out.1 _ _).other BNE.out.1 _ _).other BNE.out.2 _ _).other BNE.out.2 _ _).other BNE.out.2 _ _)
      have HB_e := Lib.hid (show Below W.heap.size W we by rw [← hw]; exact below_set3 (below_set3 hbd (by have := SW.out; omega) _ _ _) (by have := SW.out; omega) _ _ _)
      have SZE := Lib.hid (show v3.heap.size < we.heap.size ∧ we.heap.size = ud.heap.size ∧ uc.heap.size ≤ ud.heap.size from ⟨by have q1 := BLT.out; have q2 := SZB.out; have q3 := SZC.out; rw [← hw]; simp [World.setCell]; omega, by rw [← hw]; simp [World.setCell], hsz⟩)
      have FY := Lib.hid (show (∀ x, ay = some x → 1 ≤ ny → x.block < we.heap.size) ∧ ∀ x, ay = some x → ub.heap.size ≤ x.block from ⟨fun x hx hn => by have := hry.far x hx hn; have := SZE.out; omega, QY.out⟩)
      have FZ := Lib.hid (show (∀ x, az = some x → 1 ≤ nz → x.block < we.heap.size) ∧ ∀ x, az = some x → uc.heap.size ≤ x.block from ⟨fun x hx hn => by have := hrd.far x hx hn; have := SZE.out; omega, QZ.out⟩)
      obtain ⟨c0, c1, c2, c3, c4, c5⟩ := hcf
      obtain ⟨d0, d1, d2, d3, d4, d5⟩ := hcg
      have hw9 := hw
      clear hsd hed hrd gz hfz h0z smz hxz hbd hcb hry hsz hw
      go_upto_region 13 with fail
      try rw [hw9]
      clear hw9 c0 c1 c2 c3 c4 c5 d0 d1 d2 d3 d4 d5
      obtain ⟨c0, c1, c2, c3, c4, c5⟩ := Xf_e.out.box
      go_wp2_with fail
      clear c0 c1 c2 c3 c4 c5
      with_reducible refine ((rlater_ok ay ny capy zy py jy TY.out.1.good (d : Int) d rfl (by have := HD12.out; omega) _ Xf_e.out.row).mono fun _ _ h => h.ok (later_can TY.out.1 (by have := HD12.out; omega))).mono ?_
      rintro e v7 ⟨a7, n7, cap7, z7, p7, i7, rfl, hb, hr, hf, hx⟩
      obtain ⟨w7, hw⟩ : ∃ W, v7.alloc (.cells #[.slice a7 n7 cap7, .int .i64 p7, .int .i64 i7] 24) = W := ⟨_, rfl⟩
      have hz : Below we.heap.size we w7 := by rw [← hw]; exact hb.trans ((below_box _).mono hb.size)
      have Cb_7 := Lib.hid (Cb_e.out.below hz)
      have Xf_7 := Lib.hid (Xf_e.out.under hz)
      have Xg_7 := Lib.hid (Xg_e.out.under hz)
      have HB_7 := Lib.hid (HB_e.out.trans (hz.mono HB_e.out.size))
      have Xl_7 := Lib.hid (show Bx w7 v7.heap.size a7 n7 cap7 p7 i7 z7 by rw [← hw]; exact Bx.new hr)
      have HFl := Lib.hid hf
      have hw7 := hw
      have SZ7 := Lib.hid (show v7.heap.size < w7.heap.size ∧ we.heap.size ≤ v7.heap.size from ⟨by rw [← hw]; simp, hb.size⟩)
      have RF7 := Lib.hid (And.intro hr.far hx)
      clear hb hr hf hx hz hw
      have PL := Lib.hid (show p7 ≤ 8 by have q1 := eform_per TY.out.1.good (later_per9 TY.out.1.good d) HFl.out; have q2 := TY.out.2.2; omega)
      have EQ := Lib.hid (show eConv z7 p7 i7 zz pz jz = laterF d (eConv zy py jy zz pz jz) from conv_late0 TY.out.1.good TZ.out.1.good TY.out.1.fin TZ.out.1.fin TY.out.2.1 TZ.out.2.1 HFl.out.val)
      by_cases hj : ECan (eConv z7 p7 i7 zz pz jz)
      · have HJ := Lib.hid hj
        clear hj
        obtain ⟨c0, c1, c2, c3, c4, c5⟩ := Xl_7.out.box
        obtain ⟨d0, d1, d2, d3, d4, d5⟩ := Xg_7.out.box
        go_wp2_with fail
        try rw [hw7]
        clear hw7
        clear c0 c1 c2 c3 c4 c5 d0 d1 d2 d3 d4 d5
        with_reducible refine ((cof_small a7 n7 cap7 z7 p7 i7 HFl.out.good (by have := PL.out; omega) az nz capz zz pz jz TZ.out.1.good (by have := TZ.out.2.2; omega) _ Xl_7.out.row Xg_7.out.row).mono fun _ _ h => h.ok HJ.out).mono ?_
        rintro e v8 ⟨a8, n8, cap8, z8, p8, i8, rfl, hb, hr, hf, hx⟩
        have HFb2 := Lib.hid hf
        have RF8 := Lib.hid (And.intro hr.far hx)
        obtain ⟨w8, hw⟩ : ∃ W, (((v8.setCell ⟨v3.heap.size, 0, none⟩ (.slice a8 n8 cap8)).setCell ⟨v3.heap.size, 1, none⟩ (.int .i64 p8)).setCell ⟨v3.heap.size, 2, none⟩ (.int .i64 i8)) = W := ⟨_, rfl⟩
        have SZ8 := Lib.hid (show w8.heap.size = v8.heap.size ∧ w7.heap.size ≤ v8.heap.size from ⟨by rw [← hw]; simp [World.setCell], hb.size⟩)
        obtain ⟨y0, y1, y2, y3, y4, y5⟩ := Cb_7.out.below hb
        have Xf_8 := Lib.hid (show Bx w8 u4.heap.size ay ny capy py jy zy from by rw [← hw]; exact (Xf_7.out.under hb).set (by have q0 := SW.out; have q1 := BLT.out; have q2 := SZB.out; have q3 := SZC.out; have q4 := SZE.out; have q5 := SZ7.out; have q6 := SZ8.out; omega) (fun x hx9 hn9 => by have q98 := FY.out.1 x hx9 hn9; have q99 := FY.out.2 x hx9; have q0 := SW.out; have q1 := BLT.out; have q2 := SZB.out; have q3 := SZC.out; have q4 := SZE.out; have q5 := SZ7.out; have q6 := SZ8.out; omega) _ _ _)
        have Xg_8 := Lib.hid (show Bx w8 (u4.heap.size + 1) az nz capz pz jz zz from by rw [← hw]; exact (Xg_7.out.under hb).set (by have q0 := SW.out; have q1 := BLT.out; have q2 := SZB.out; have q3 := SZC.out; have q4 := SZE.out; have q5 := SZ7.out; have q6 := SZ8.out; omega) (fun x hx9 hn9 => by have q98 := FZ.out.1 x hx9 hn9; have q99 := FZ.out.2 x hx9; have q0 := SW.out; have q1 := BLT.out; have q2 := SZB.out; have q3 := SZC.out; have q4 := SZE.out; have q5 := SZ7.out; have q6 := SZ8.out; omega) _ _ _)
        have Xl_8 := Lib.hid (show Bx w8 v7.heap.size a7 n7 cap7 p7 i7 z7 from by rw [← hw]; exact (Xl_7.out.under hb).set (by have q0 := SW.out; have q1 := BLT.out; have q2 := SZB.out; have q3 := SZC.out; have q4 := SZE.out; have q5 := SZ7.out; have q6 := SZ8.out; omega) (fun x hx9 hn9 => by have q98 := RF7.out.1 x hx9 hn9; have q99 := RF7.out.2 x hx9; have q0 := SW.out; have q1 := BLT.out; have q2 := SZB.out; have q3 := SZC.out; have q4 := SZE.out; have q5 := SZ7.out; have q6 := SZ8.out; omega) _ _ _)
        have Xb_8 := Lib.hid (show Bx w8 v3.heap.size a8 n8 cap8 p8 i8 z8 by rw [← hw]; exact Bx.lay (Cb_7.out.below hb) hr (fun x hx9 hn9 => by have q99 := RF8.out.2 x hx9; have q0 := SW.out; have q1 := BLT.out; have q2 := SZB.out; have q3 := SZC.out; have q4 := SZE.out; have q5 := SZ7.out; have q6 := SZ8.out; omega))
        have HB_8 := Lib.hid (show Below W.heap.size W w8 by rw [← hw]; exact below_set3 (HB_7.out.trans (hb.mono HB_7.out.size)) (by have q0 := SW.out; have q1 := BLT.out; have q2 := SZB.out; have q3 := SZC.out; have q4 := SZE.out; have q5 := SZ7.out; have q6 := SZ8.out; have q97 := SW.out; omega) _ _ _)
        have hw8 := hw
        clear hb hw hr hf hx
        by_cases hn : ECan (eConv zy py jy zz pz jz)
        · have HN := Lib.hid hn
          clear hn
          obtain ⟨c0, c1, c2, c3, c4, c5⟩ := Xf_8.out.box
          obtain ⟨d0, d1, d2, d3, d4, d5⟩ := Xg_8.out.box
          go_wp2_with fail
          try rw [hw8]
          clear hw8
          clear c0 c1 c2 c3 c4 c5 d0 d1 d2 d3 d4 d5
          with_reducible refine ((cof_small ay ny capy zy py jy TY.out.1.good (by have := TY.out.2.2; omega) az nz capz zz pz jz TZ.out.1.good (by have := TZ.out.2.2; omega) _ Xf_8.out.row Xg_8.out.row).mono fun _ _ h => h.ok HN.out).mono ?_
          rintro e v9 ⟨a9, n9, cap9, z9, p9, i9, rfl, hb, hr, hf, hx⟩
          obtain ⟨w9, hw⟩ : ∃ W, v9.alloc (.cells #[.slice a9 n9 cap9, .int .i64 p9, .int .i64 i9] 24) = W := ⟨_, rfl⟩
          have hz : Below w8.heap.size w8 w9 := by rw [← hw]; exact hb.trans ((below_box _).mono hb.size)
          have Xf_9 := Lib.hid (Xf_8.out.under hz)
          have Xg_9 := Lib.hid (Xg_8.out.under hz)
          have Xl_9 := Lib.hid (Xl_8.out.under hz)
          have Xb_9 := Lib.hid (Xb_8.out.under hz)
          have HB_9 := Lib.hid (HB_8.out.trans (hz.mono HB_8.out.size))
          have Xc_9 := Lib.hid (show Bx w9 v9.heap.size a9 n9 cap9 p9 i9 z9 by rw [← hw]; exact Bx.new hr)
          have HFc := Lib.hid hf
          have hw9 := hw
          have SZ9 := Lib.hid (show v9.heap.size < w9.heap.size ∧ w8.heap.size ≤ v9.heap.size from ⟨by rw [← hw]; simp, hb.size⟩)
          have RF9 := Lib.hid (And.intro hr.far hx)
          clear hb hr hf hx hz hw
          have OKC := Lib.hid ((okC_iff z9 p9 i9).2 HFc.out.good)
          have C64 := Lib.hid (show In64 (p9 : Int) ∧ In64 i9 from ⟨⟨by omega, by have q1 := HFc.out.good.few; have q2 := HFc.out.good.p3; omega⟩, by have q1 := HFc.out.good.i0; omega, by have q1 := HFc.out.good.i1; omega⟩)
          obtain ⟨c0, c1, c2, c3, c4, c5⟩ := Xc_9.out.box
          go_wp2_with fail
          try rw [hw9]
          clear hw9
          clear c0 c1 c2 c3 c4 c5
          with_reducible refine (rvalid_any a9 n9 cap9 z9 p9 i9 C64.out.1 C64.out.2 true OKC.out _ Xc_9.out.row).mono ?_
          rintro e w10 ⟨rfl, hb⟩
          have Xf_10 := Lib.hid (Xf_9.out.under hb)
          have Xg_10 := Lib.hid (Xg_9.out.under hb)
          have Xl_10 := Lib.hid (Xl_9.out.under hb)
          have Xb_10 := Lib.hid (Xb_9.out.under hb)
          have Xc_10 := Lib.hid (Xc_9.out.under hb)
          have HB_10 := Lib.hid (HB_9.out.trans (hb.mono HB_9.out.size))
          have SY10 := Lib.hid hb.size
          clear hb
          have EQ2 := Lib.hid (show eLater d z9 p9 i9 = eConv z7 p7 i7 zz pz jz by rw [EQ.out, eLater_F, funext HFc.out.val])
          obtain ⟨c0, c1, c2, c3, c4, c5⟩ := Xc_10.out.box
          go_wp2_with fail
          clear c0 c1 c2 c3 c4 c5
          with_reducible refine ((rlater_ok a9 n9 cap9 z9 p9 i9 HFc.out.good (d : Int) d rfl (by have := HD12.out; omega) _ Xc_10.out.row).mono fun _ _ h => h.ok (by rw [EQ2.out]; exact HJ.out)).mono ?_
          rintro e v11 ⟨a11, n11, cap11, z11, p11, i11, rfl, hb, hr, hf, hx⟩
          obtain ⟨w11, hw⟩ : ∃ W, v11.alloc (.cells #[.slice a11 n11 cap11, .int .i64 p11, .int .i64 i11] 24) = W := ⟨_, rfl⟩
          have hz : Below w10.heap.size w10 w11 := by rw [← hw]; exact hb.trans ((below_box _).mono hb.size)
          have Xf_11 := Lib.hid (Xf_10.out.under hz)
          have Xg_11 := Lib.hid (Xg_10.out.under hz)
          have Xl_11 := Lib.hid (Xl_10.out.under hz)
          have Xb_11 := Lib.hid (Xb_10.out.under hz)
          have Xc_11 := Lib.hid (Xc_10.out.under hz)
          have HB_11 := Lib.hid (HB_10.out.trans (hz.mono HB_10.out.size))
          have Xx_11 := Lib.hid (show Bx w11 v11.heap.size a11 n11 cap11 p11 i11 z11 by rw [← hw]; exact Bx.new hr)
          have HFx := Lib.hid hf
          have hw11 := hw
          have SZ11 := Lib.hid (show v11.heap.size < w11.heap.size ∧ w10.heap.size ≤ v11.heap.size from ⟨by rw [← hw]; simp, hb.size⟩)
          have RF11 := Lib.hid (And.intro hr.far hx)
          clear hb hr hf hx hz hw
          have HFx2 := Lib.hid (show EForm z11 p11 i11 (eConv z7 p7 i7 zz pz jz) by have := HFx.out; rwa [EQ2.out] at this)
          obtain ⟨c0, c1, c2, c3, c4, c5⟩ := Xx_11.out.box
          obtain ⟨d0, d1, d2, d3, d4, d5⟩ := Xb_11.out.box
          go_wp2_with fail
          try rw [hw11]
          clear hw11
          clear c0 c1 c2 c3 c4 c5 d0 d1 d2 d3 d4 d5
          with_reducible refine (same_at HFx2.out HFb2.out _ Xx_11.out.row Xb_11.out.row).mono ?_
          rintro e w12 ⟨rfl, hb⟩
          have Xf_12 := Lib.hid (Xf_11.out.under hb)
          have Xg_12 := Lib.hid (Xg_11.out.under hb)
          have Xl_12 := Lib.hid (Xl_11.out.under hb)
          have Xb_12 := Lib.hid (Xb_11.out.under hb)
          have Xc_12 := Lib.hid (Xc_11.out.under hb)
          have Xx_12 := Lib.hid (Xx_11.out.under hb)
          have HB_12 := Lib.hid (HB_11.out.trans (hb.mono HB_11.out.size))
          have SY12 := Lib.hid hb.size
          clear hb
          go_wp2_with fail
          with_reducible refine (awake7 _).mono ?_
          rintro e w13 ⟨rfl, hb⟩
          have HBZ := Lib.hid (HB_12.out.trans (hb.mono HB_12.out.size))
          clear hb
          go_wp2_with fail
          go_ret
          exact ⟨rfl, HBZ.out⟩
        · have HN := Lib.hid hn
          clear hn
          obtain ⟨c0, c1, c2, c3, c4, c5⟩ := Xf_8.out.box
          obtain ⟨d0, d1, d2, d3, d4, d5⟩ := Xg_8.out.box
          go_wp2_with fail
          try rw [hw8]
          clear hw8
          clear c0 c1 c2 c3 c4 c5 d0 d1 d2 d3 d4 d5
          with_reducible refine ((cof_small ay ny capy zy py jy TY.out.1.good (by have := TY.out.2.2; omega) az nz capz zz pz jz TZ.out.1.good (by have := TZ.out.2.2; omega) _ Xf_8.out.row Xg_8.out.row).mono fun _ _ h => h.no HN.out).mono ?_
          rintro e v9 ⟨rfl, hb⟩
          obtain ⟨w9, hw⟩ : ∃ W, v9.alloc (.cells #[.slice none 0 0, .int .i64 0, .int .i64 0] 24) = W := ⟨_, rfl⟩
          have hz : Below w8.heap.size w8 w9 := by rw [← hw]; exact hb.trans ((below_box _).mono hb.size)
          have Xf_9 := Lib.hid (Xf_8.out.under hz)
          have Xg_9 := Lib.hid (Xg_8.out.under hz)
          have Xl_9 := Lib.hid (Xl_8.out.under hz)
          have Xb_9 := Lib.hid (Xb_8.out.under hz)
          have HB_9 := Lib.hid (HB_8.out.trans (hz.mono HB_8.out.size))
          have Xc_9 := Lib.hid (show Bx w9 v9.heap.size none 0 0 ((0 : Nat)) 0 [] by rw [← hw]; exact Bx.new (rowZ_none _))
          have HWK9 := Lib.hid hw
          have SZ9 := Lib.hid (show v9.heap.size < w9.heap.size ∧ w8.heap.size ≤ v9.heap.size from ⟨by rw [← hw]; simp, hb.size⟩)
          clear hb hz hw
          go_upto_region 16 with fail
          try rw [HWK9.out]
          go_wp2_with fail
          with_reducible refine (awake7 _).mono ?_
          rintro e w10 ⟨rfl, hb⟩
          have HBZ := Lib.hid (HB_9.out.trans (hb.mono HB_9.out.size))
          clear hb
          go_wp2_with fail
          go_ret
          exact ⟨rfl, HBZ.out⟩
      · have HJ := Lib.hid hj
        clear hj
        obtain ⟨c0, c1, c2, c3, c4, c5⟩ := Xl_7.out.box
        obtain ⟨d0, d1, d2, d3, d4, d5⟩ := Xg_7.out.box
        go_wp2_with fail
        try rw [hw7]
        clear hw7
        clear c0 c1 c2 c3 c4 c5 d0 d1 d2 d3 d4 d5
        with_reducible refine ((cof_small a7 n7 cap7 z7 p7 i7 HFl.out.good (by have := PL.out; omega) az nz capz zz pz jz TZ.out.1.good (by have := TZ.out.2.2; omega) _ Xl_7.out.row Xg_7.out.row).mono fun _ _ h => h.no HJ.out).mono ?_
        rintro e v8 ⟨rfl, hb⟩
        obtain ⟨w8, hw⟩ : ∃ W, (((v8.setCell ⟨v3.heap.size, 0, none⟩ (.slice none 0 0)).setCell ⟨v3.heap.size, 1, none⟩ (.int .i64 0)).setCell ⟨v3.heap.size, 2, none⟩ (.int .i64 0)) = W := ⟨_, rfl⟩
        have SZ8 := Lib.hid (show w8.heap.size = v8.heap.size ∧ w7.heap.size ≤ v8.heap.size from ⟨by rw [← hw]; simp [World.setCell], hb.size⟩)
        obtain ⟨y0, y1, y2, y3, y4, y5⟩ := Cb_7.out.below hb
        have Xf_8 := Lib.hid (show Bx w8 u4.heap.size ay ny capy py jy zy from by rw [← hw]; exact (Xf_7.out.under hb).set (by have q0 := SW.out; have q1 := BLT.out; have q2 := SZB.out; have q3 := SZC.out; have q4 := SZE.out; have q5 := SZ7.out; have q6 := SZ8.out; omega) (fun x hx9 hn9 => by have q98 := FY.out.1 x hx9 hn9; have q99 := FY.out.2 x hx9; have q0 := SW.out; have q1 := BLT.out; have q2 := SZB.out; have q3 := SZC.out; have q4 := SZE.out; have q5 := SZ7.out; have q6 := SZ8.out; omega) _ _ _)
        have Xg_8 := Lib.hid (show Bx w8 (u4.heap.size + 1) az nz capz pz jz zz from by rw [← hw]; exact (Xg_7.out.under hb).set (by have q0 := SW.out; have q1 := BLT.out; have q2 := SZB.out; have q3 := SZC.out; have q4 := SZE.out; have q5 := SZ7.out; have q6 := SZ8.out; omega) (fun x hx9 hn9 => by have q98 := FZ.out.1 x hx9 hn9; have q99 := FZ.out.2 x hx9; have q0 := SW.out; have q1 := BLT.out; have q2 := SZB.out; have q3 := SZC.out; have q4 := SZE.out; have q5 := SZ7.out; have q6 := SZ8.out; omega) _ _ _)
        have Xl_8 := Lib.hid (show Bx w8 v7.heap.size a7 n7 cap7 p7 i7 z7 from by rw [← hw]; exact (Xl_7.out.under hb).set (by have q0 := SW.out; have q1 := BLT.out; have q2 := SZB.out; have q3 := SZC.out; have q4 := SZE.out; have q5 := SZ7.out; have q6 := SZ8.out; omega) (fun x hx9 hn9 => by have q98 := RF7.out.1 x hx9 hn9; have q99 := RF7.out.2 x hx9; have q0 := SW.out; have q1 := BLT.out; have q2 := SZB.out; have q3 := SZC.out; have q4 := SZE.out; have q5 := SZ7.out; have q6 := SZ8.out; omega) _ _ _)
        have HB_8 := Lib.hid (show Below W.heap.size W w8 by rw [← hw]; exact below_set3 (HB_7.out.trans (hb.mono HB_7.out.size)) (by have q0 := SW.out; have q1 := BLT.out; have q2 := SZB.out; have q3 := SZC.out; have q4 := SZE.out; have q5 := SZ7.out; have q6 := SZ8.out; have q97 := SW.out; omega) _ _ _)
        have hw8 := hw
        clear hb hw
        obtain ⟨c0, c1, c2, c3, c4, c5⟩ := Xf_8.out.box
        obtain ⟨d0, d1, d2, d3, d4, d5⟩ := Xg_8.out.box
        go_wp2_with fail
        try rw [hw8]
        clear hw8
        clear c0 c1 c2 c3 c4 c5 d0 d1 d2 d3 d4 d5
        clear y0 y1 y2 y3 y4 y5
        with_reducible refine ((cof_small ay ny capy zy py jy TY.out.1.good (by have := TY.out.2.2; omega) az nz capz zz pz jz TZ.out.1.good (by have := TZ.out.2.2; omega) _ Xf_8.out.row Xg_8.out.row).mono fun _ _ h => h.any).mono ?_
        rintro e v9 ⟨a9, n9, cap9, p9, i9, cd9, rfl, hb⟩
        obtain ⟨w9, hw⟩ : ∃ W, v9.alloc (.cells #[.slice a9 n9 cap9, .int .i64 p9, .int .i64 i9] 24) = W := ⟨_, rfl⟩
        have hz : Below w8.heap.size w8 w9 := by rw [← hw]; exact hb.trans ((below_box _).mono hb.size)
        have Xf_9 := Lib.hid (Xf_8.out.under hz)
        have Xg_9 := Lib.hid (Xg_8.out.under hz)
        have Xl_9 := Lib.hid (Xl_8.out.under hz)
        have HB_9 := Lib.hid (HB_8.out.trans (hz.mono HB_8.out.size))
        have Cc_9 := Lib.hid (show Cur3 w9 v9.heap.size (.slice a9 n9 cap9) (.int .i64 p9) (.int .i64 i9) by rw [← hw]; exact Cur3.new _ _ _ _ _)
        have SZ9 := Lib.hid (show v9.heap.size < w9.heap.size ∧ w8.heap.size ≤ v9.heap.size from ⟨by rw [← hw]; simp, hb.size⟩)
        have hw9 := hw
        clear hb hz hw
        go_wp2_with fail
        try rw [hw9]
        clear hw9
        go_wp2_with fail
        with_reducible refine (awake7 _).mono ?_
        rintro e w10 ⟨rfl, hb⟩
        have HBZ := Lib.hid (HB_9.out.trans (hb.mono HB_9.out.size))
        clear hb
        go_wp2_with fail
        go_ret
        exact ⟨rfl, HBZ.out⟩
  · have HM := Lib.hid hm
    clear hm
    obtain ⟨c0, c1, c2, c3, c4, c5⟩ := Xg.out.box
    obtain ⟨d0, d1, d2, d3, d4, d5⟩ := Xd.out.box
    go_wp2_with fail
    try rw [hw0]
    clear hw0
    clear c0 c1 c2 c3 c4 c5 d0 d1 d2 d3 d4 d5
    with_reducible refine ((rmin_day7 ag ng capg zg pg jg GF.out.2.1 ad nd capd zd pd jd GF.out.2.2 DF.out.2.1 DF.out.2.2 _ Xg.out.row Xd.out.row).mono fun _ _ h => h.no HM.out).mono ?_
    rintro e v1 ⟨rfl, hb⟩
    obtain ⟨w1, hw⟩ : ∃ W, v1.alloc (.cells #[.slice none 0 0, .int .i64 0, .int .i64 0] 24) = W := ⟨_, rfl⟩
    have hz : Below w0.heap.size w0 w1 := by rw [← hw]; exact hb.trans ((below_box _).mono hb.size)
    have Xf_1 := Lib.hid (Xf.out.under hz)
    have Xg_1 := Lib.hid (Xg.out.under hz)
    have Xh_1 := Lib.hid (Xd.out.under hz)
    have HB_1 := Lib.hid (HU.out.trans (hz.mono HU.out.size))
    have Xm_1 := Lib.hid (show Bx w1 v1.heap.size none 0 0 ((0 : Nat)) 0 [] by rw [← hw]; exact Bx.new (rowZ_none _))
    have HWK1 := Lib.hid hw
    have SZ1 := Lib.hid (show v1.heap.size < w1.heap.size ∧ w0.heap.size ≤ v1.heap.size from ⟨by rw [← hw]; simp, hb.size⟩)
    clear hb hz hw
    obtain ⟨c0, c1, c2, c3, c4, c5⟩ := Xf_1.out.box
    obtain ⟨d0, d1, d2, d3, d4, d5⟩ := Xg_1.out.box
    go_upto_region 4 with fail
    try rw [HWK1.out]
    go_wp2_with fail
    clear c0 c1 c2 c3 c4 c5 d0 d1 d2 d3 d4 d5
    with_reducible refine ((cof_day af nf capf zf pf jf GF.out.1 ag ng capg zg pg jg GF.out.2.1 DF.out.1 DF.out.2.1 _ Xf_1.out.row Xg_1.out.row).mono fun _ _ h => h.any).mono ?_
    rintro e v2 ⟨a2, n2, cap2, p2, i2, cd2, rfl, hb⟩
    obtain ⟨w2, hw⟩ : ∃ W, v2.alloc (.cells #[.slice a2 n2 cap2, .int .i64 p2, .int .i64 i2] 24) = W := ⟨_, rfl⟩
    have hz : Below w1.heap.size w1 w2 := by rw [← hw]; exact hb.trans ((below_box _).mono hb.size)
    have Xf_2 := Lib.hid (Xf_1.out.under hz)
    have Xg_2 := Lib.hid (Xg_1.out.under hz)
    have Xh_2 := Lib.hid (Xh_1.out.under hz)
    have Xm_2 := Lib.hid (Xm_1.out.under hz)
    have HB_2 := Lib.hid (HB_1.out.trans (hz.mono HB_1.out.size))
    have Ca_2 := Lib.hid (show Cur3 w2 v2.heap.size (.slice a2 n2 cap2) (.int .i64 p2) (.int .i64 i2) by rw [← hw]; exact Cur3.new _ _ _ _ _)
    have SZ2 := Lib.hid (show v2.heap.size < w2.heap.size ∧ w1.heap.size ≤ v2.heap.size from ⟨by rw [← hw]; simp, hb.size⟩)
    have hw2 := hw
    clear hb hz hw
    obtain ⟨c0, c1, c2, c3, c4, c5⟩ := Xf_2.out.box
    obtain ⟨d0, d1, d2, d3, d4, d5⟩ := Xh_2.out.box
    go_wp2_with fail
    try rw [hw2]
    clear hw2
    clear c0 c1 c2 c3 c4 c5 d0 d1 d2 d3 d4 d5
    with_reducible refine ((cof_day af nf capf zf pf jf GF.out.1 ad nd capd zd pd jd GF.out.2.2 DF.out.1 DF.out.2.2 _ Xf_2.out.row Xh_2.out.row).mono fun _ _ h => h.any).mono ?_
    rintro e v3 ⟨a3, n3, cap3, p3, i3, cd3, rfl, hb⟩
    obtain ⟨w3, hw⟩ : ∃ W, v3.alloc (.cells #[.slice a3 n3 cap3, .int .i64 p3, .int .i64 i3] 24) = W := ⟨_, rfl⟩
    have hz : Below w2.heap.size w2 w3 := by rw [← hw]; exact hb.trans ((below_box _).mono hb.size)
    have Ca_3 := Lib.hid (Ca_2.out.below hz)
    have Xf_3 := Lib.hid (Xf_2.out.under hz)
    have Xg_3 := Lib.hid (Xg_2.out.under hz)
    have Xh_3 := Lib.hid (Xh_2.out.under hz)
    have Xm_3 := Lib.hid (Xm_2.out.under hz)
    have HB_3 := Lib.hid (HB_2.out.trans (hz.mono HB_2.out.size))
    have Cb_3 := Lib.hid (show Cur3 w3 v3.heap.size (.slice a3 n3 cap3) (.int .i64 p3) (.int .i64 i3) by rw [← hw]; exact Cur3.new _ _ _ _ _)
    have SZ3 := Lib.hid (show v3.heap.size < w3.heap.size ∧ w2.heap.size ≤ v3.heap.size from ⟨by rw [← hw]; simp, hb.size⟩)
    have hw3 := hw
    clear hb hz hw
    have Cf_4 := Lib.hid Xf_3.out.box
    have Cg_5 := Lib.hid Xg_3.out.box
    go_wp2_with fail
    try rw [hw3]
    clear hw3
    have HSA := Lib.hid (src_under SR0.out HB_3.out)
    have HBA := Lib.hid (HB5.out.trans (HB_3.out.mono HB5.out.size))
    have BLT := Lib.hid (show v3.heap.size < w3.heap.size ∧ w0.heap.size ≤ v3.heap.size from ⟨Cb_3.out.lt, by have q97 := SW.out; have q0 := SZ1.out; have q1 := SZ2.out; have q2 := SZ3.out; omega⟩)
    refine (n_any 12 (by omega) (by omega) _ ra rn rc _ HSA.out).mono ?_
    rintro e ub ⟨rd, ⟨rd0, rd1⟩, rfl, hsb, heb⟩
    have HSB := Lib.hid hsb
    have HBB := Lib.hid (HBA.out.trans (heb.below (Nat.le_refl _)))
    obtain ⟨d, rfl⟩ := Int.eq_ofNat_of_zero_le rd0
    have HD12 := Lib.hid (show d ≤ 12 by omega)
    have CF1 := Lib.hid (Cf_4.out.apart heb.apart (by have := SW.out; omega))
    have CG1 := Lib.hid (Cg_5.out.apart heb.apart (by have := SW.out; omega))
    have CB1 := Lib.hid (Cb_3.out.apart heb.apart (by have := SW.out; have := BLT.out; omega))
    have SZB := Lib.hid (show w3.heap.size ≤ ub.heap.size from heb.apart.size)
    clear hsb heb rd0 rd1
    go_wp2_with fail
    refine (zero_any 4 (by omega) (by omega) _ ra rn rc _ HSB.out).mono ?_
    rintro e uc ⟨ay, ny, capy, zy, py, jy, rfl, hsc, hec, hrc, gy, hfy, h0y, smy, hxy⟩
    have HSC := Lib.hid hsc
    have HBC := Lib.hid (HBB.out.trans (hec.below (Nat.le_refl _) HBB.out.size))
    have TY := Lib.hid (And.intro (tiny_of gy hfy smy.1 smy.2.1 smy.2.2.1 smy.2.2.2) (And.intro h0y smy.2.1))
    have RY := Lib.hid hrc
    have QY := Lib.hid hxy
    have CF2 := Lib.hid (CF1.out.apart hec (by have := SW.out; omega))
    have CG2 := Lib.hid (CG1.out.apart hec (by have := SW.out; omega))
    have CB2 := Lib.hid (CB1.out.apart hec (by have := SW.out; have := BLT.out; omega))
    have SZC := Lib.hid (show ub.heap.size ≤ uc.heap.size from hec.size)
    clear hsc hec hrc gy hfy h0y smy hxy
    go_wp2_with fail
    refine (zero_any 4 (by omega) (by omega) _ ra rn rc _ HSC.out).mono ?_
    rintro e ud ⟨az, nz, capz, zz, pz, jz, rfl, hsd, hed, hrd, gz, hfz, h0z, smz, hxz⟩
    have hbd := HBC.out.trans (hed.below (Nat.le_refl _) HBC.out.size)
    have TZ := Lib.hid (And.intro (tiny_of gz hfz smz.1 smz.2.1 smz.2.2.1 smz.2.2.2) (And.intro h0z smz.2.1))
    have QZ := Lib.hid hxz
    have hcf := CF2.out.apart hed (by have := SW.out; omega)
    have hcg := CG2.out.apart hed (by have := SW.out; omega)
    have hcb := CB2.out.apart hed (by have := SW.out; have := BLT.out; omega)
    have hry := RY.out.apart hed (fun x hx => by have q1 := QY.out x hx; have q2 := SW.out; have q3 := BLT.out; have q4 := SZB.out; omega)
    have hsz := hed.size
    obtain ⟨we, hw⟩ : ∃ W, ((((((ud.setCell ⟨u4.heap.size, 0, none⟩ (.slice ay ny capy)).setCell ⟨u4.heap.size, 1, none⟩ (.int .i64 py)).setCell ⟨u4.heap.size, 2, none⟩ (.int .i64 jy)).setCell ⟨u4.heap.size + 1, 0, none⟩ (.slice az nz capz)).setCell ⟨u4.heap.size + 1, 1, none⟩ (.int .i64 pz)).setCell ⟨u4.heap.size + 1, 2, none⟩ (.int .i64 jz)) = W := ⟨_, rfl⟩
    have NY := Lib.hid (show (∀ G, G < ub.heap.size → ∀ x, ay = some x → 1 ≤ ny → x.block ≠ G) ∧ ∀ G, G < uc.heap.size → ∀ x, az = some x → 1 ≤ nz → x.block ≠ G from ⟨fun G hG x hx _ => by have := QY.out x hx; omega, fun G hG x hx _ => by have := hxz x hx; omega⟩)
    have HLT := Lib.hid (show u4.heap.size + 1 < ub.heap.size ∧ u4.heap.size + 1 < uc.heap.size by have q1 := SW.out; have q2 := SZB.out; have q3 := SZC.out; have q4 := BLT.out; omega)
    have Xf_e := Lib.hid (show Bx we u4.heap.size ay ny capy py jy zy by rw [← hw]; exact (Bx.lay hcf hry (NY.out.1 _ (by have := HLT.out; omega))).set (by omega) (NY.out.1 _ (by have := HLT.out; omega)) _ _ _)
    have Xg_e := Lib.hid (show Bx we (u4.heap.size + 1) az nz capz pz jz zz by rw [← hw]; exact Bx.lay (((hcg.other (by omega) _ _).other (by omega) _ _).other (by omega) _ _) (((hrd.store (NY.out.2 _ (by have := HLT.out; omega)) _ _).store (NY.out.2 _ (by have := HLT.out; omega)) _ _).store (NY.out.2 _ (by have := HLT.out; omega)) _ _) (NY.out.2 _ (by have := HLT.out; omega)))
    have BNE := Lib.hid (show ¬ v3.heap.size = u4.heap.size ∧ ¬ v3.heap.size = u4.heap.size + 1 by have q1 := SW.out; have q2 := BLT.out; omega)
    have Cb_e := Lib.hid (show Cur3 we v3.heap.size _ _ _ by rw [← hw]; exact (((((hcb.other BNE.out.1 _ _).other BNE.out.1 _ _).other BNE.out.1 _ _).other BNE.out.2 _ _).other BNE.out.2 _ _).other BNE.out.2 _ _)
    have HB_e := Lib.hid (show Below W.heap.size W we by rw [← hw]; exact below_set3 (below_set3 hbd (by have := SW.out; omega) _ _ _) (by have := SW.out; omega) _ _ _)
    have SZE := Lib.hid (show v3.heap.size < we.heap.size ∧ we.heap.size = ud.heap.size ∧ uc.heap.size ≤ ud.heap.size from ⟨by have q1 := BLT.out; have q2 := SZB.out; have q3 := SZC.out; rw [← hw]; simp [World.setCell]; omega, by rw [← hw]; simp [World.setCell], hsz⟩)
    have FY := Lib.hid (show (∀ x, ay = some x → 1 ≤ ny → x.block < we.heap.size) ∧ ∀ x, ay = some x → ub.heap.size ≤ x.block from ⟨fun x hx hn => by have := hry.far x hx hn; have := SZE.out; omega, QY.out⟩)
    have FZ := Lib.hid (show (∀ x, az = some x → 1 ≤ nz → x.block < we.heap.size) ∧ ∀ x, az = some x → uc.heap.size ≤ x.block from ⟨fun x hx hn => by have := hrd.far x hx hn; have := SZE.out; omega, QZ.out⟩)
    obtain ⟨c0, c1, c2, c3, c4, c5⟩ := hcf
    obtain ⟨d0, d1, d2, d3, d4, d5⟩ := hcg
    have hw9 := hw
    clear hsd hed hrd gz hfz h0z smz hxz hbd hcb hry hsz hw
    go_upto_region 13 with fail
    try rw [hw9]
    clear hw9 c0 c1 c2 c3 c4 c5 d0 d1 d2 d3 d4 d5
    obtain ⟨c0, c1, c2, c3, c4, c5⟩ := Xf_e.out.box
    go_wp2_with fail
    clear c0 c1 c2 c3 c4 c5
    with_reducible refine ((rlater_ok ay ny capy zy py jy TY.out.1.good (d : Int) d rfl (by have := HD12.out; omega) _ Xf_e.out.row).mono fun _ _ h => h.ok (later_can TY.out.1 (by have := HD12.out; omega))).mono ?_
    rintro e v7 ⟨a7, n7, cap7, z7, p7, i7, rfl, hb, hr, hf, hx⟩
    obtain ⟨w7, hw⟩ : ∃ W, v7.alloc (.cells #[.slice a7 n7 cap7, .int .i64 p7, .int .i64 i7] 24) = W := ⟨_, rfl⟩
    have hz : Below we.heap.size we w7 := by rw [← hw]; exact hb.trans ((below_box _).mono hb.size)
    have Cb_7 := Lib.hid (Cb_e.out.below hz)
    have Xf_7 := Lib.hid (Xf_e.out.under hz)
    have Xg_7 := Lib.hid (Xg_e.out.under hz)
    have HB_7 := Lib.hid (HB_e.out.trans (hz.mono HB_e.out.size))
    have Xl_7 := Lib.hid (show Bx w7 v7.heap.size a7 n7 cap7 p7 i7 z7 by rw [← hw]; exact Bx.new hr)
    have HFl := Lib.hid hf
    have hw7 := hw
    have SZ7 := Lib.hid (show v7.heap.size < w7.heap.size ∧ we.heap.size ≤ v7.heap.size from ⟨by rw [← hw]; simp, hb.size⟩)
    have RF7 := Lib.hid (And.intro hr.far hx)
    clear hb hr hf hx hz hw
    have PL := Lib.hid (show p7 ≤ 8 by have q1 := eform_per TY.out.1.good (later_per9 TY.out.1.good d) HFl.out; have q2 := TY.out.2.2; omega)
    have EQ := Lib.hid (show eConv z7 p7 i7 zz pz jz = laterF d (eConv zy py jy zz pz jz) from conv_late0 TY.out.1.good TZ.out.1.good TY.out.1.fin TZ.out.1.fin TY.out.2.1 TZ.out.2.1 HFl.out.val)
    by_cases hj : ECan (eConv z7 p7 i7 zz pz jz)
    · have HJ := Lib.hid hj
      clear hj
      obtain ⟨c0, c1, c2, c3, c4, c5⟩ := Xl_7.out.box
      obtain ⟨d0, d1, d2, d3, d4, d5⟩ := Xg_7.out.box
      go_wp2_with fail
      try rw [hw7]
      clear hw7
      clear c0 c1 c2 c3 c4 c5 d0 d1 d2 d3 d4 d5
      with_reducible refine ((cof_small a7 n7 cap7 z7 p7 i7 HFl.out.good (by have := PL.out; omega) az nz capz zz pz jz TZ.out.1.good (by have := TZ.out.2.2; omega) _ Xl_7.out.row Xg_7.out.row).mono fun _ _ h => h.ok HJ.out).mono ?_
      rintro e v8 ⟨a8, n8, cap8, z8, p8, i8, rfl, hb, hr, hf, hx⟩
      have HFb2 := Lib.hid hf
      have RF8 := Lib.hid (And.intro hr.far hx)
      obtain ⟨w8, hw⟩ : ∃ W, (((v8.setCell ⟨v3.heap.size, 0, none⟩ (.slice a8 n8 cap8)).setCell ⟨v3.heap.size, 1, none⟩ (.int .i64 p8)).setCell ⟨v3.heap.size, 2, none⟩ (.int .i64 i8)) = W := ⟨_, rfl⟩
      have SZ8 := Lib.hid (show w8.heap.size = v8.heap.size ∧ w7.heap.size ≤ v8.heap.size from ⟨by rw [← hw]; simp [World.setCell], hb.size⟩)
      obtain ⟨y0, y1, y2, y3, y4, y5⟩ := Cb_7.out.below hb
      have Xf_8 := Lib.hid (show Bx w8 u4.heap.size ay ny capy py jy zy from by rw [← hw]; exact (Xf_7.out.under hb).set (by have q0 := SW.out; have q1 := BLT.out; have q2 := SZB.out; have q3 := SZC.out; have q4 := SZE.out; have q5 := SZ7.out; have q6 := SZ8.out; omega) (fun x hx9 hn9 => by have q98 := FY.out.1 x hx9 hn9; have q99 := FY.out.2 x hx9; have q0 := SW.out; have q1 := BLT.out; have q2 := SZB.out; have q3 := SZC.out; have q4 := SZE.out; have q5 := SZ7.out; have q6 := SZ8.out; omega) _ _ _)
      have Xg_8 := Lib.hid (show Bx w8 (u4.heap.size + 1) az nz capz pz jz zz from by rw [← hw]; exact (Xg_7.out.under hb).set (by have q0 := SW.out; have q1 := BLT.out; have q2 := SZB.out; have q3 := SZC.out; have q4 := SZE.out; have q5 := SZ7.out; have q6 := SZ8.out; omega) (fun x hx9 hn9 => by have q98 := FZ.out.1 x hx9 hn9; have q99 := FZ.out.2 x hx9; have q0 := SW.out; have q1 := BLT.out; have q2 := SZB.out; have q3 := SZC.out; have q4 := SZE.out; have q5 := SZ7.out; have q6 := SZ8.out; omega) _ _ _)
      have Xl_8 := Lib.hid (show Bx w8 v7.heap.size a7 n7 cap7 p7 i7 z7 from by rw [← hw]; exact (Xl_7.out.under hb).set (by have q0 := SW.out; have q1 := BLT.out; have q2 := SZB.out; have q3 := SZC.out; have q4 := SZE.out; have q5 := SZ7.out; have q6 := SZ8.out; omega) (fun x hx9 hn9 => by have q98 := RF7.out.1 x hx9 hn9; have q99 := RF7.out.2 x hx9; have q0 := SW.out; have q1 := BLT.out; have q2 := SZB.out; have q3 := SZC.out; have q4 := SZE.out; have q5 := SZ7.out; have q6 := SZ8.out; omega) _ _ _)
      have Xb_8 := Lib.hid (show Bx w8 v3.heap.size a8 n8 cap8 p8 i8 z8 by rw [← hw]; exact Bx.lay (Cb_7.out.below hb) hr (fun x hx9 hn9 => by have q99 := RF8.out.2 x hx9; have q0 := SW.out; have q1 := BLT.out; have q2 := SZB.out; have q3 := SZC.out; have q4 := SZE.out; have q5 := SZ7.out; have q6 := SZ8.out; omega))
      have HB_8 := Lib.hid (show Below W.heap.size W w8 by rw [← hw]; exact below_set3 (HB_7.out.trans (hb.mono HB_7.out.size)) (by have q0 := SW.out; have q1 := BLT.out; have q2 := SZB.out; have q3 := SZC.out; have q4 := SZE.out; have q5 := SZ7.out; have q6 := SZ8.out; have q97 := SW.out; omega) _ _ _)
      have hw8 := hw
      clear hb hw hr hf hx
      by_cases hn : ECan (eConv zy py jy zz pz jz)
      · have HN := Lib.hid hn
        clear hn
        obtain ⟨c0, c1, c2, c3, c4, c5⟩ := Xf_8.out.box
        obtain ⟨d0, d1, d2, d3, d4, d5⟩ := Xg_8.out.box
        go_wp2_with fail
        try rw [hw8]
        clear hw8
        clear c0 c1 c2 c3 c4 c5 d0 d1 d2 d3 d4 d5
        with_reducible refine ((cof_small ay ny capy zy py jy TY.out.1.good (by have := TY.out.2.2; omega) az nz capz zz pz jz TZ.out.1.good (by have := TZ.out.2.2; omega) _ Xf_8.out.row Xg_8.out.row).mono fun _ _ h => h.ok HN.out).mono ?_
        rintro e v9 ⟨a9, n9, cap9, z9, p9, i9, rfl, hb, hr, hf, hx⟩
        obtain ⟨w9, hw⟩ : ∃ W, v9.alloc (.cells #[.slice a9 n9 cap9, .int .i64 p9, .int .i64 i9] 24) = W := ⟨_, rfl⟩
        have hz : Below w8.heap.size w8 w9 := by rw [← hw]; exact hb.trans ((below_box _).mono hb.size)
        have Xf_9 := Lib.hid (Xf_8.out.under hz)
        have Xg_9 := Lib.hid (Xg_8.out.under hz)
        have Xl_9 := Lib.hid (Xl_8.out.under hz)
        have Xb_9 := Lib.hid (Xb_8.out.under hz)
        have HB_9 := Lib.hid (HB_8.out.trans (hz.mono HB_8.out.size))
        have Xc_9 := Lib.hid (show Bx w9 v9.heap.size a9 n9 cap9 p9 i9 z9 by rw [← hw]; exact Bx.new hr)
        have HFc := Lib.hid hf
        have hw9 := hw
        have SZ9 := Lib.hid (show v9.heap.size < w9.heap.size ∧ w8.heap.size ≤ v9.heap.size from ⟨by rw [← hw]; simp, hb.size⟩)
        have RF9 := Lib.hid (And.intro hr.far hx)
        clear hb hr hf hx hz hw
        have OKC := Lib.hid ((okC_iff z9 p9 i9).2 HFc.out.good)
        have C64 := Lib.hid (show In64 (p9 : Int) ∧ In64 i9 from ⟨⟨by omega, by have q1 := HFc.out.good.few; have q2 := HFc.out.good.p3; omega⟩, by have q1 := HFc.out.good.i0; omega, by have q1 := HFc.out.good.i1; omega⟩)
        obtain ⟨c0, c1, c2, c3, c4, c5⟩ := Xc_9.out.box
        go_wp2_with fail
        try rw [hw9]
        clear hw9
        clear c0 c1 c2 c3 c4 c5
        with_reducible refine (rvalid_any a9 n9 cap9 z9 p9 i9 C64.out.1 C64.out.2 true OKC.out _ Xc_9.out.row).mono ?_
        rintro e w10 ⟨rfl, hb⟩
        have Xf_10 := Lib.hid (Xf_9.out.under hb)
        have Xg_10 := Lib.hid (Xg_9.out.under hb)
        have Xl_10 := Lib.hid (Xl_9.out.under hb)
        have Xb_10 := Lib.hid (Xb_9.out.under hb)
        have Xc_10 := Lib.hid (Xc_9.out.under hb)
        have HB_10 := Lib.hid (HB_9.out.trans (hb.mono HB_9.out.size))
        have SY10 := Lib.hid hb.size
        clear hb
        have EQ2 := Lib.hid (show eLater d z9 p9 i9 = eConv z7 p7 i7 zz pz jz by rw [EQ.out, eLater_F, funext HFc.out.val])
        obtain ⟨c0, c1, c2, c3, c4, c5⟩ := Xc_10.out.box
        go_wp2_with fail
        clear c0 c1 c2 c3 c4 c5
        with_reducible refine ((rlater_ok a9 n9 cap9 z9 p9 i9 HFc.out.good (d : Int) d rfl (by have := HD12.out; omega) _ Xc_10.out.row).mono fun _ _ h => h.ok (by rw [EQ2.out]; exact HJ.out)).mono ?_
        rintro e v11 ⟨a11, n11, cap11, z11, p11, i11, rfl, hb, hr, hf, hx⟩
        obtain ⟨w11, hw⟩ : ∃ W, v11.alloc (.cells #[.slice a11 n11 cap11, .int .i64 p11, .int .i64 i11] 24) = W := ⟨_, rfl⟩
        have hz : Below w10.heap.size w10 w11 := by rw [← hw]; exact hb.trans ((below_box _).mono hb.size)
        have Xf_11 := Lib.hid (Xf_10.out.under hz)
        have Xg_11 := Lib.hid (Xg_10.out.under hz)
        have Xl_11 := Lib.hid (Xl_10.out.under hz)
        have Xb_11 := Lib.hid (Xb_10.out.under hz)
        have Xc_11 := Lib.hid (Xc_10.out.under hz)
        have HB_11 := Lib.hid (HB_10.out.trans (hz.mono HB_10.out.size))
        have Xx_11 := Lib.hid (show Bx w11 v11.heap.size a11 n11 cap11 p11 i11 z11 by rw [← hw]; exact Bx.new hr)
        have HFx := Lib.hid hf
        have hw11 := hw
        have SZ11 := Lib.hid (show v11.heap.size < w11.heap.size ∧ w10.heap.size ≤ v11.heap.size from ⟨by rw [← hw]; simp, hb.size⟩)
        have RF11 := Lib.hid (And.intro hr.far hx)
        clear hb hr hf hx hz hw
        have HFx2 := Lib.hid (show EForm z11 p11 i11 (eConv z7 p7 i7 zz pz jz) by have := HFx.out; rwa [EQ2.out] at this)
        obtain ⟨c0, c1, c2, c3, c4, c5⟩ := Xx_11.out.box
        obtain ⟨d0, d1, d2, d3, d4, d5⟩ := Xb_11.out.box
        go_wp2_with fail
        try rw [hw11]
        clear hw11
        clear c0 c1 c2 c3 c4 c5 d0 d1 d2 d3 d4 d5
        with_reducible refine (same_at HFx2.out HFb2.out _ Xx_11.out.row Xb_11.out.row).mono ?_
        rintro e w12 ⟨rfl, hb⟩
        have Xf_12 := Lib.hid (Xf_11.out.under hb)
        have Xg_12 := Lib.hid (Xg_11.out.under hb)
        have Xl_12 := Lib.hid (Xl_11.out.under hb)
        have Xb_12 := Lib.hid (Xb_11.out.under hb)
        have Xc_12 := Lib.hid (Xc_11.out.under hb)
        have Xx_12 := Lib.hid (Xx_11.out.under hb)
        have HB_12 := Lib.hid (HB_11.out.trans (hb.mono HB_11.out.size))
        have SY12 := Lib.hid hb.size
        clear hb
        go_wp2_with fail
        with_reducible refine (awake7 _).mono ?_
        rintro e w13 ⟨rfl, hb⟩
        have HBZ := Lib.hid (HB_12.out.trans (hb.mono HB_12.out.size))
        clear hb
        go_wp2_with fail
        go_ret
        exact ⟨rfl, HBZ.out⟩
      · have HN := Lib.hid hn
        clear hn
        obtain ⟨c0, c1, c2, c3, c4, c5⟩ := Xf_8.out.box
        obtain ⟨d0, d1, d2, d3, d4, d5⟩ := Xg_8.out.box
        go_wp2_with fail
        try rw [hw8]
        clear hw8
        clear c0 c1 c2 c3 c4 c5 d0 d1 d2 d3 d4 d5
        with_reducible refine ((cof_small ay ny capy zy py jy TY.out.1.good (by have := TY.out.2.2; omega) az nz capz zz pz jz TZ.out.1.good (by have := TZ.out.2.2; omega) _ Xf_8.out.row Xg_8.out.row).mono fun _ _ h => h.no HN.out).mono ?_
        rintro e v9 ⟨rfl, hb⟩
        obtain ⟨w9, hw⟩ : ∃ W, v9.alloc (.cells #[.slice none 0 0, .int .i64 0, .int .i64 0] 24) = W := ⟨_, rfl⟩
        have hz : Below w8.heap.size w8 w9 := by rw [← hw]; exact hb.trans ((below_box _).mono hb.size)
        have Xf_9 := Lib.hid (Xf_8.out.under hz)
        have Xg_9 := Lib.hid (Xg_8.out.under hz)
        have Xl_9 := Lib.hid (Xl_8.out.under hz)
        have Xb_9 := Lib.hid (Xb_8.out.under hz)
        have HB_9 := Lib.hid (HB_8.out.trans (hz.mono HB_8.out.size))
        have Xc_9 := Lib.hid (show Bx w9 v9.heap.size none 0 0 ((0 : Nat)) 0 [] by rw [← hw]; exact Bx.new (rowZ_none _))
        have HWK9 := Lib.hid hw
        have SZ9 := Lib.hid (show v9.heap.size < w9.heap.size ∧ w8.heap.size ≤ v9.heap.size from ⟨by rw [← hw]; simp, hb.size⟩)
        clear hb hz hw
        go_upto_region 16 with fail
        try rw [HWK9.out]
        go_wp2_with fail
        with_reducible refine (awake7 _).mono ?_
        rintro e w10 ⟨rfl, hb⟩
        have HBZ := Lib.hid (HB_9.out.trans (hb.mono HB_9.out.size))
        clear hb
        go_wp2_with fail
        go_ret
        exact ⟨rfl, HBZ.out⟩
    · have HJ := Lib.hid hj
      clear hj
      obtain ⟨c0, c1, c2, c3, c4, c5⟩ := Xl_7.out.box
      obtain ⟨d0, d1, d2, d3, d4, d5⟩ := Xg_7.out.box
      go_wp2_with fail
      try rw [hw7]
      clear hw7
      clear c0 c1 c2 c3 c4 c5 d0 d1 d2 d3 d4 d5
      with_reducible refine ((cof_small a7 n7 cap7 z7 p7 i7 HFl.out.good (by have := PL.out; omega) az nz capz zz pz jz TZ.out.1.good (by have := TZ.out.2.2; omega) _ Xl_7.out.row Xg_7.out.row).mono fun _ _ h => h.no HJ.out).mono ?_
      rintro e v8 ⟨rfl, hb⟩
      obtain ⟨w8, hw⟩ : ∃ W, (((v8.setCell ⟨v3.heap.size, 0, none⟩ (.slice none 0 0)).setCell ⟨v3.heap.size, 1, none⟩ (.int .i64 0)).setCell ⟨v3.heap.size, 2, none⟩ (.int .i64 0)) = W := ⟨_, rfl⟩
      have SZ8 := Lib.hid (show w8.heap.size = v8.heap.size ∧ w7.heap.size ≤ v8.heap.size from ⟨by rw [← hw]; simp [World.setCell], hb.size⟩)
      obtain ⟨y0, y1, y2, y3, y4, y5⟩ := Cb_7.out.below hb
      have Xf_8 := Lib.hid (show Bx w8 u4.heap.size ay ny capy py jy zy from by rw [← hw]; exact (Xf_7.out.under hb).set (by have q0 := SW.out; have q1 := BLT.out; have q2 := SZB.out; have q3 := SZC.out; have q4 := SZE.out; have q5 := SZ7.out; have q6 := SZ8.out; omega) (fun x hx9 hn9 => by have q98 := FY.out.1 x hx9 hn9; have q99 := FY.out.2 x hx9; have q0 := SW.out; have q1 := BLT.out; have q2 := SZB.out; have q3 := SZC.out; have q4 := SZE.out; have q5 := SZ7.out; have q6 := SZ8.out; omega) _ _ _)
      have Xg_8 := Lib.hid (show Bx w8 (u4.heap.size + 1) az nz capz pz jz zz from by rw [← hw]; exact (Xg_7.out.under hb).set (by have q0 := SW.out; have q1 := BLT.out; have q2 := SZB.out; have q3 := SZC.out; have q4 := SZE.out; have q5 := SZ7.out; have q6 := SZ8.out; omega) (fun x hx9 hn9 => by have q98 := FZ.out.1 x hx9 hn9; have q99 := FZ.out.2 x hx9; have q0 := SW.out; have q1 := BLT.out; have q2 := SZB.out; have q3 := SZC.out; have q4 := SZE.out; have q5 := SZ7.out; have q6 := SZ8.out; omega) _ _ _)
      have Xl_8 := Lib.hid (show Bx w8 v7.heap.size a7 n7 cap7 p7 i7 z7 from by rw [← hw]; exact (Xl_7.out.under hb).set (by have q0 := SW.out; have q1 := BLT.out; have q2 := SZB.out; have q3 := SZC.out; have q4 := SZE.out; have q5 := SZ7.out; have q6 := SZ8.out; omega) (fun x hx9 hn9 => by have q98 := RF7.out.1 x hx9 hn9; have q99 := RF7.out.2 x hx9; have q0 := SW.out; have q1 := BLT.out; have q2 := SZB.out; have q3 := SZC.out; have q4 := SZE.out; have q5 := SZ7.out; have q6 := SZ8.out; omega) _ _ _)
      have HB_8 := Lib.hid (show Below W.heap.size W w8 by rw [← hw]; exact below_set3 (HB_7.out.trans (hb.mono HB_7.out.size)) (by have q0 := SW.out; have q1 := BLT.out; have q2 := SZB.out; have q3 := SZC.out; have q4 := SZE.out; have q5 := SZ7.out; have q6 := SZ8.out; have q97 := SW.out; omega) _ _ _)
      have hw8 := hw
      clear hb hw
      obtain ⟨c0, c1, c2, c3, c4, c5⟩ := Xf_8.out.box
      obtain ⟨d0, d1, d2, d3, d4, d5⟩ := Xg_8.out.box
      go_wp2_with fail
      try rw [hw8]
      clear hw8
      clear c0 c1 c2 c3 c4 c5 d0 d1 d2 d3 d4 d5
      clear y0 y1 y2 y3 y4 y5
      with_reducible refine ((cof_small ay ny capy zy py jy TY.out.1.good (by have := TY.out.2.2; omega) az nz capz zz pz jz TZ.out.1.good (by have := TZ.out.2.2; omega) _ Xf_8.out.row Xg_8.out.row).mono fun _ _ h => h.any).mono ?_
      rintro e v9 ⟨a9, n9, cap9, p9, i9, cd9, rfl, hb⟩
      obtain ⟨w9, hw⟩ : ∃ W, v9.alloc (.cells #[.slice a9 n9 cap9, .int .i64 p9, .int .i64 i9] 24) = W := ⟨_, rfl⟩
      have hz : Below w8.heap.size w8 w9 := by rw [← hw]; exact hb.trans ((below_box _).mono hb.size)
      have Xf_9 := Lib.hid (Xf_8.out.under hz)
      have Xg_9 := Lib.hid (Xg_8.out.under hz)
      have Xl_9 := Lib.hid (Xl_8.out.under hz)
      have HB_9 := Lib.hid (HB_8.out.trans (hz.mono HB_8.out.size))
      have Cc_9 := Lib.hid (show Cur3 w9 v9.heap.size (.slice a9 n9 cap9) (.int .i64 p9) (.int .i64 i9) by rw [← hw]; exact Cur3.new _ _ _ _ _)
      have SZ9 := Lib.hid (show v9.heap.size < w9.heap.size ∧ w8.heap.size ≤ v9.heap.size from ⟨by rw [← hw]; simp, hb.size⟩)
      have hw9 := hw
      clear hb hz hw
      go_wp2_with fail
      try rw [hw9]
      clear hw9
      go_wp2_with fail
      with_reducible refine (awake7 _).mono ?_
      rintro e w10 ⟨rfl, hb⟩
      have HBZ := Lib.hid (HB_9.out.trans (hb.mono HB_9.out.size))
      clear hb
      go_wp2_with fail
      go_ret
      exact ⟨rfl, HBZ.out⟩

end Go.Proofs.Ytladmpoopfabdaa
