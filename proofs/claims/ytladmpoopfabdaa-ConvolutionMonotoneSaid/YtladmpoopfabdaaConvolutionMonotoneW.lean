/- The walk of ConvolutionMonotone. By the verifier's side. -/
import Derived.Test.YtladmpoopfabdaaConEG
import Derived.Test.YtladmpoopfabdaaCurveNormalW
import Derived.Test.YtladmpoopfabdaaOrdAS
import Derived.Test.YtladmpoopfabdaaKeepC
namespace Go.Proofs.Ytladmpoopfabdaa
open Go.RowKit
set_option linter.unusedSimpArgs false
set_option linter.unusedVariables false

theorem rsum_day7 (a1 : Option Addr) (n1 cap1 : Nat) (z1 : List Int) (p1 : Nat) (i1 : Int) (g1 : Good z1 p1 i1) (a2 : Option Addr) (n2 cap2 : Nat) (z2 : List Int) (p2 : Nat) (i2 : Int) (g2 : Good z2 p2 i2) (h1 : Day (eC z1 p1 i1)) (h2 : Day (eC z2 p2 i2))
    (w : World) (r1 : RowZ w a1 n1 cap1 z1) (r2 : RowZ w a2 n2 cap2 z2) : Calls Try.prog 39 #[curV a1 n1 cap1 p1 i1, curV a2 n2 cap2 p2 i2] w (GivesE (eSum z1 p1 i1 z2 p2 i2) w) := by
  obtain ⟨L, hL, hl⟩ := lcm_day g1 g2 h1 h2
  exact rsum_ok a1 n1 cap1 z1 p1 i1 g1 a2 n2 cap2 z2 p2 i2 g2 L hl hL w r1 r2

/-- The boxes that the loop reads. -/
structure MS7 (W : World) (F G A B : Nat) (af : Option Addr) (nf capf : Nat) (zf : List Int) (pf : Nat) (jf : Int) (ag : Option Addr) (ng capg : Nat) (zg : List Int) (pg : Nat) (jg : Int) (aa : Option Addr) (na capa : Nat) (za : List Int) (pa : Nat) (ja : Int) (ab : Option Addr) (nb capb : Nat) (zb : List Int) (pb : Nat) (jb : Int) (u : World) : Prop where
  f : Bx u F af nf capf pf jf zf
  g : Bx u G ag ng capg pg jg zg
  a : Bx u A aa na capa pa ja za
  b : Bx u B ab nb capb pb jb zb
  below : Below W.heap.size W u
theorem MS7.call {W : World} {F G A B : Nat} {af : Option Addr} {nf capf : Nat} {zf : List Int} {pf : Nat} {jf : Int} {ag : Option Addr} {ng capg : Nat} {zg : List Int} {pg : Nat} {jg : Int} {aa : Option Addr} {na capa : Nat} {za : List Int} {pa : Nat} {ja : Int} {ab : Option Addr} {nb capb : Nat} {zb : List Int} {pb : Nat} {jb : Int} {u v : World}
    (h : MS7 W F G A B af nf capf zf pf jf ag ng capg zg pg jg aa na capa za pa ja ab nb capb zb pb jb u) (hb : Below u.heap.size u v) : MS7 W F G A B af nf capf zf pf jf ag ng capg zg pg jg aa na capa za pa ja ab nb capb zb pb jb v :=
  ⟨h.f.under hb, h.g.under hb, h.a.under hb, h.b.under hb, h.below.trans (hb.mono h.below.size)⟩

set_option maxRecDepth 100000 in
set_option maxHeartbeats 6400000 in
theorem convolutionMonotone_walk (W : World) (a : Option Addr) (n cap : Nat) (hrow : RowAt W a n cap) :
    Calls Try.prog 7 #[.slice a n cap] W fun e w' => e = .returned (.bool true) ∧ Below W.heap.size W w' := by
  have HR := Lib.hid hrow
  clear hrow
  go_enter Try.func7, Try.ntmps7
  go_wp2_with fail
  refine (new_any a n cap _ HR.out).mono ?_
  rintro e u1 ⟨rfl, hb1, hz1, ra, rn, rc, hs1⟩
  have HB1 := Lib.hid hb1
  have HS1 := Lib.hid hs1
  have Z1 := Lib.hid hz1
  clear hb1 hz1 hs1
  go_wp2_with fail
  refine (curve_any 4 (by omega) (by omega) _ ra rn rc _ HS1.out).mono ?_
  rintro e u2 ⟨af, nf, capf, zf, pf, jf, rfl, hs2, he2, hr2, ok2, hx2⟩
  have OF := Lib.hid ok2
  have HS2 := Lib.hid hs2
  have R2 := Lib.hid hr2
  have X2 := Lib.hid (show ∀ x, af = some x → ¬ x.block = W.heap.size from fun x hx => by have := hx2 x hx; have := Z1.out; omega)
  have HB2 := Lib.hid (HB1.out.trans (he2.below (Nat.le_refl _) HB1.out.size))
  clear hs2 he2 hr2 ok2 hx2
  go_wp2_with fail
  refine (curve_any 4 (by omega) (by omega) _ ra rn rc _ HS2.out).mono ?_
  rintro e u3 ⟨ag, ng, capg, zg, pg, jg, rfl, hs3, he3, hr3, ok3, hx3⟩
  have OG := Lib.hid ok3
  have HS3 := Lib.hid hs3
  have R3 := Lib.hid hr3
  have R23 := Lib.hid (R2.out.apart he3 X2.out)
  have h9 : W.heap.size < u2.heap.size := lt_of_cell (src_cell HS2.out)
  have X3 := Lib.hid (show ∀ x, ag = some x → ¬ x.block = W.heap.size from fun x hx => by have := hx3 x hx; omega)
  have HB3 := Lib.hid (HB2.out.trans (he3.below (Nat.le_refl _) HB2.out.size))
  clear hs3 he3 hr3 ok3 hx3 h9
  go_wp2_with fail
  refine (curve_any 2 (by omega) (by omega) _ ra rn rc _ HS3.out).mono ?_
  rintro e u4 ⟨ad, nd, capd, zd, pd, jd, rfl, hs4, he4, hr4, ok4, hx4⟩
  have OD := Lib.hid ok4
  have HS4 := Lib.hid hs4
  have R4 := Lib.hid hr4
  have R34 := Lib.hid (R3.out.apart he4 X3.out)
  have R24 := Lib.hid (R23.out.apart he4 X2.out)
  have HB4 := Lib.hid (HB3.out.trans (he4.below (Nat.le_refl _) HB3.out.size))
  clear hs4 he4 hr4 ok4 hx4
  obtain ⟨w0, hw⟩ : ∃ W, ((u4.alloc (.cells #[.slice af nf capf, .int .i64 pf, .int .i64 jf] 24)).alloc (.cells #[.slice ag ng capg, .int .i64 pg, .int .i64 jg] 24)).alloc (.cells #[.slice ad nd capd, .int .i64 pd, .int .i64 jd] 24) = W := ⟨_, rfl⟩
  have hz : Below u4.heap.size u4 w0 := by rw [← hw]; exact ((below_box _).alloc (by simp) _).alloc (by simp; omega) _
  have Xf := Lib.hid (show Bx w0 u4.heap.size af nf capf pf jf zf by rw [← hw]; exact ((Bx.new R24.out).under (below_box _)).under (below_box _))
  have Xg := Lib.hid (show Bx w0 (u4.heap.size + 1) ag ng capg pg jg zg by
    rw [← hw]
    have := (Bx.new (p := pg) (inc := jg) (R34.out.alloc (.cells #[.slice af nf capf, .int .i64 pf, .int .i64 jf] 24))).under (below_box (.cells #[.slice ad nd capd, .int .i64 pd, .int .i64 jd] 24))
    rwa [show (u4.alloc (.cells #[.slice af nf capf, .int .i64 pf, .int .i64 jf] 24)).heap.size = u4.heap.size + 1 by simp] at this)
  have Xd := Lib.hid (show Bx w0 (u4.heap.size + 2) ad nd capd pd jd zd by
    rw [← hw]
    have := Bx.new (p := pd) (inc := jd) ((R4.out.alloc (.cells #[.slice af nf capf, .int .i64 pf, .int .i64 jf] 24)).alloc (.cells #[.slice ag ng capg, .int .i64 pg, .int .i64 jg] 24))
    rwa [show ((u4.alloc (.cells #[.slice af nf capf, .int .i64 pf, .int .i64 jf] 24)).alloc (.cells #[.slice ag ng capg, .int .i64 pg, .int .i64 jg] 24)).heap.size = u4.heap.size + 2 by simp] at this)
  have HB5 := Lib.hid (HB4.out.trans (hz.mono HB4.out.size))
  have SR0 := Lib.hid (src_under HS4.out hz)
  have SW := Lib.hid (show W.heap.size < u4.heap.size ∧ u4.heap.size + 3 ≤ w0.heap.size from ⟨lt_of_cell (src_cell HS4.out), by rw [← hw]; simp⟩)
  have DF := Lib.hid (show Day (eC zf pf jf) ∧ Day (eC zg pg jg) ∧ Day (eC zd pd jd) from ⟨(drawn_nice OF.out (by omega)).day, (drawn_nice OG.out (by omega)).day, (drawn_nice OD.out (by omega)).day⟩)
  have hw0 := hw
  clear hw hz
  have GF := Lib.hid (And.intro OF.out.good (And.intro OG.out.good OD.out.good))
  have CS := Lib.hid (show ECan (eSum zf pf jf zd pd jd) from sum_can (most := 4) OF.out (show OkCur 4 zd pd jd from ⟨OD.out.good, by have := OD.out.few; omega, OD.out.p8, OD.out.slow, OD.out.inc, OD.out.val, OD.out.div⟩) (by omega))
  obtain ⟨c0, c1, c2, c3, c4, c5⟩ := Xf.out.box
  obtain ⟨d0, d1, d2, d3, d4, d5⟩ := Xd.out.box
  go_wp2_with fail
  try rw [hw0]
  clear hw0
  clear c0 c1 c2 c3 c4 c5 d0 d1 d2 d3 d4 d5
  with_reducible refine ((rsum_day7 af nf capf zf pf jf GF.out.1 ad nd capd zd pd jd GF.out.2.2 DF.out.1 DF.out.2.2 _ Xf.out.row Xd.out.row).mono fun _ _ h => h.ok CS.out).mono ?_
  rintro e v1 ⟨a1, n1, cap1, z1, p1, i1, rfl, hb, hr, hf, hx⟩
  obtain ⟨w1, hw⟩ : ∃ W, v1.alloc (.cells #[.slice a1 n1 cap1, .int .i64 p1, .int .i64 i1] 24) = W := ⟨_, rfl⟩
  have hz : Below w0.heap.size w0 w1 := by rw [← hw]; exact hb.trans ((below_box _).mono hb.size)
  have Xf_1 := Lib.hid (Xf.out.under hz)
  have Xg_1 := Lib.hid (Xg.out.under hz)
  have Xd_1 := Lib.hid (Xd.out.under hz)
  have HB_1 := Lib.hid (HB5.out.trans (hz.mono HB5.out.size))
  have Xm_1 := Lib.hid (show Bx w1 v1.heap.size a1 n1 cap1 p1 i1 z1 by rw [← hw]; exact Bx.new hr)
  have HFm := Lib.hid hf
  have hw1 := hw
  clear hb hr hf hx hz hw
  have DM := Lib.hid (show Day (eC z1 p1 i1) from (DF.out.1.sum DF.out.2.2).of HFm.out.val)
  by_cases hA : ECan (eConv zf pf jf zg pg jg)
  · have HA := Lib.hid hA
    clear hA
    obtain ⟨c0, c1, c2, c3, c4, c5⟩ := Xf_1.out.box
    obtain ⟨d0, d1, d2, d3, d4, d5⟩ := Xg_1.out.box
    go_wp2_with fail
    try rw [hw1]
    clear hw1
    clear c0 c1 c2 c3 c4 c5 d0 d1 d2 d3 d4 d5
    with_reducible refine ((cof_day af nf capf zf pf jf GF.out.1 ag ng capg zg pg jg GF.out.2.1 DF.out.1 DF.out.2.1 _ Xf_1.out.row Xg_1.out.row).mono fun _ _ h => h.ok HA.out).mono ?_
    rintro e v2 ⟨a2, n2, cap2, z2, p2, i2, rfl, hb, hr, hf, hx⟩
    obtain ⟨w2, hw⟩ : ∃ W, v2.alloc (.cells #[.slice a2 n2 cap2, .int .i64 p2, .int .i64 i2] 24) = W := ⟨_, rfl⟩
    have hz : Below w1.heap.size w1 w2 := by rw [← hw]; exact hb.trans ((below_box _).mono hb.size)
    have Xf_2 := Lib.hid (Xf_1.out.under hz)
    have Xg_2 := Lib.hid (Xg_1.out.under hz)
    have Xd_2 := Lib.hid (Xd_1.out.under hz)
    have Xm_2 := Lib.hid (Xm_1.out.under hz)
    have HB_2 := Lib.hid (HB_1.out.trans (hz.mono HB_1.out.size))
    have Xa_2 := Lib.hid (show Bx w2 v2.heap.size a2 n2 cap2 p2 i2 z2 by rw [← hw]; exact Bx.new hr)
    have HFa := Lib.hid hf
    have hw2 := hw
    clear hb hr hf hx hz hw
    by_cases hB : ECan (eConv z1 p1 i1 zg pg jg)
    · have HBC := Lib.hid hB
      clear hB
      obtain ⟨c0, c1, c2, c3, c4, c5⟩ := Xm_2.out.box
      obtain ⟨d0, d1, d2, d3, d4, d5⟩ := Xg_2.out.box
      go_wp2_with fail
      try rw [hw2]
      clear hw2
      clear c0 c1 c2 c3 c4 c5 d0 d1 d2 d3 d4 d5
      with_reducible refine ((cof_day a1 n1 cap1 z1 p1 i1 HFm.out.good ag ng capg zg pg jg GF.out.2.1 DM.out DF.out.2.1 _ Xm_2.out.row Xg_2.out.row).mono fun _ _ h => h.ok HBC.out).mono ?_
      rintro e v3 ⟨a3, n3, cap3, z3, p3, i3, rfl, hb, hr, hf, hx⟩
      obtain ⟨w3, hw⟩ : ∃ W, v3.alloc (.cells #[.slice a3 n3 cap3, .int .i64 p3, .int .i64 i3] 24) = W := ⟨_, rfl⟩
      have hz : Below w2.heap.size w2 w3 := by rw [← hw]; exact hb.trans ((below_box _).mono hb.size)
      have Xf_3 := Lib.hid (Xf_2.out.under hz)
      have Xg_3 := Lib.hid (Xg_2.out.under hz)
      have Xd_3 := Lib.hid (Xd_2.out.under hz)
      have Xm_3 := Lib.hid (Xm_2.out.under hz)
      have Xa_3 := Lib.hid (Xa_2.out.under hz)
      have HB_3 := Lib.hid (HB_2.out.trans (hz.mono HB_2.out.size))
      have Xb_3 := Lib.hid (show Bx w3 v3.heap.size a3 n3 cap3 p3 i3 z3 by rw [← hw]; exact Bx.new hr)
      have HFb := Lib.hid hf
      have hw3 := hw
      clear hb hr hf hx hz hw
      have MS := Lib.hid (show MS7 W u4.heap.size (u4.heap.size + 1) v2.heap.size v3.heap.size af nf capf zf pf jf ag ng capg zg pg jg a2 n2 cap2 z2 p2 i2 a3 n3 cap3 z3 p3 i3 w3 from ⟨Xf_3.out, Xg_3.out, Xa_3.out, Xb_3.out, HB_3.out⟩)
      have EX := Lib.hid (exc_of (fun t => oconv_mono (fun t => ole_more (xs := z1) OD.out.good HFm.out.val t) (fun t => ole_refl _) t) HFa.out HFb.out)
      go_upto_region 10 with fail
      try rw [hw3]
      clear hw3
      go_wp2_with fail
      go_loopw [13] (fun s13 wx => ∃ t : Nat, s13 = .int .i64 t ∧ t ≤ 60 ∧ Hid (MS7 W u4.heap.size (u4.heap.size + 1) v2.heap.size v3.heap.size af nf capf zf pf jf ag ng capg zg pg jg a2 n2 cap2 z2 p2 i2 a3 n3 cap3 z3 p3 i3 wx)) (fun s13 _ => 60 - (intOf s13).toNat)
      case atStart => exact ⟨0, by go_num, Nat.zero_le _, MS⟩
      case round =>
        obtain ⟨t, rfl, ht, MT⟩ := hrel
        obtain ⟨wt, rfl⟩ : ∃ u : World, u = wr := ⟨_, rfl⟩
        by_cases hlt : t < 60
        · have hlti : (t : Int) < 60 := by omega
          obtain ⟨v, hv⟩ : ∃ v, atC z2 p2 i2 t = v := ⟨_, rfl⟩
          obtain ⟨x, hx⟩ : ∃ x, atC zf pf jf t = x := ⟨_, rfl⟩
          obtain ⟨y, hy⟩ : ∃ y, atC zg pg jg 0 = y := ⟨_, rfl⟩
          have hle : v ≤ plI x y := by rw [← hv, ← hx, ← hy]; exact below_ex GF.out.1 GF.out.2.1 HFa.out (s := t) (u := 0) (by omega) (by omega)
          have hmx := (show Mid x from hx ▸ at_mid2 GF.out.1 (by omega)).bd
          have hmy := (show Mid y from hy ▸ at_mid2 GF.out.2.1 (by omega)).bd
          have HV := Lib.hid (And.intro hx hy)
          have HVA := Lib.hid hv
          clear hv hx hy
          obtain ⟨c0, c1, c2, c3, c4, c5⟩ := MT.out.a.box
          go_wp2_with fail
          clear c0 c1 c2 c3 c4 c5
          with_reducible refine (value_at a2 n2 cap2 z2 p2 i2 HFa.out.good _ t rfl (by omega) v HVA.out _ MT.out.a.row).mono ?_
          rintro e u7 ⟨rfl, hb⟩
          have MT1 := Lib.hid (MT.out.call hb)
          have MS2 := Lib.hid (MT1.out.call (Below.refl _ _).drew)
          have KS := Lib.hid (show ∀ u, MS7 W u4.heap.size (u4.heap.size + 1) v2.heap.size v3.heap.size af nf capf zf pf jf ag ng capg zg pg jg a2 n2 cap2 z2 p2 i2 a3 n3 cap3 z3 p3 i3 u → (fun u => u.cell? ⟨u4.heap.size, 0, none⟩ = some (.slice af nf capf) ∧ u.cell? ⟨u4.heap.size, 1, none⟩ = some (.int .i64 pf) ∧ u.cell? ⟨u4.heap.size, 2, none⟩ = some (.int .i64 jf) ∧ u.cell? ⟨u4.heap.size + 1, 0, none⟩ = some (.slice ag ng capg) ∧ u.cell? ⟨u4.heap.size + 1, 1, none⟩ = some (.int .i64 pg) ∧ u.cell? ⟨u4.heap.size + 1, 2, none⟩ = some (.int .i64 jg) ∧ Hid (MS7 W u4.heap.size (u4.heap.size + 1) v2.heap.size v3.heap.size af nf capf zf pf jf ag ng capg zg pg jg a2 n2 cap2 z2 p2 i2 a3 n3 cap3 z3 p3 i3 u)) u from fun u hu => ⟨hu.f.box.c0, hu.f.box.c1, hu.f.box.c2, hu.g.box.c0, hu.g.box.c1, hu.g.box.c2, hu⟩)
          clear hb
          go_upto_region 14 with fail
          refine wp_region_keeps (fun u => u.cell? ⟨u4.heap.size, 0, none⟩ = some (.slice af nf capf) ∧ u.cell? ⟨u4.heap.size, 1, none⟩ = some (.int .i64 pf) ∧ u.cell? ⟨u4.heap.size, 2, none⟩ = some (.int .i64 jf) ∧ u.cell? ⟨u4.heap.size + 1, 0, none⟩ = some (.slice ag ng capg) ∧ u.cell? ⟨u4.heap.size + 1, 1, none⟩ = some (.int .i64 pg) ∧ u.cell? ⟨u4.heap.size + 1, 2, none⟩ = some (.int .i64 jg) ∧ Hid (MS7 W u4.heap.size (u4.heap.size + 1) v2.heap.size v3.heap.size af nf capf zf pf jf ag ng capg zg pg jg a2 n2 cap2 z2 p2 i2 a3 n3 cap3 z3 p3 i3 u)) 5 2 (by kernel_rfl) (by kernel_rfl) (KS.out _ MS2.out) (fun hHeld0 => ?_)
          refine wpAnyK_take (i := 0) (v := ?_) rfl (by kernel_rfl) (fun _ _ _ h => h) (Or.inl ⟨by rfl, ?_⟩) (by assumption) ?_
          rotate_left
          · (intro w hSw; (try dsimp only at hSw); go_simp; try with_reducible rfl)
          try simp only [Act.put, List.getElem_toArray, List.getElem_cons_zero, List.getElem_cons_succ, List.setIfInBounds_toArray, List.set_cons_zero, List.set_cons_succ]
          refine wpAnyK_take (i := 1) (v := ?_) rfl (by kernel_rfl) (fun _ _ _ h => h) (Or.inl ⟨by rfl, ?_⟩) (by assumption) ?_
          rotate_left
          · (intro w hSw; (try dsimp only at hSw); go_simp; try with_reducible rfl)
          try simp only [Act.put, List.getElem_toArray, List.getElem_cons_zero, List.getElem_cons_succ, List.setIfInBounds_toArray, List.set_cons_zero, List.set_cons_succ]
          refine wpAnyK_take (i := 3) (v := ?_) rfl (by kernel_rfl) (fun _ _ _ h => h) (Or.inl ⟨by rfl, ?_⟩) (by assumption) ?_
          rotate_left
          · (intro w hSw; (try dsimp only at hSw); go_simp; try with_reducible rfl)
          try simp only [Act.put, List.getElem_toArray, List.getElem_cons_zero, List.getElem_cons_succ, List.setIfInBounds_toArray, List.set_cons_zero, List.set_cons_succ]
          refine wpAnyK_step (i := 2) rfl (by kernel_rfl) (fun K hK => ?_)
          go_simp
          with_reducible refine (rat_at af nf capf zf pf jf GF.out.1 t t rfl (by omega) x HV.out.1 _ MS2.out.f.row).mono ?_
          rintro e u8 ⟨rfl, hb⟩
          have MS3 := Lib.hid (MS2.out.call hb)
          clear hb
          refine hK.out _ _ (KS.out _ MS3.out) (fun hHeld1 => ?_)
          clear hK K hHeld0
          try simp only [Act.put, List.getElem_toArray, List.getElem_cons_zero, List.getElem_cons_succ, List.setIfInBounds_toArray, List.set_cons_zero, List.set_cons_succ]
          refine wpAnyK_step (i := 4) rfl (by kernel_rfl) (fun K hK => ?_)
          go_simp
          with_reducible refine (rat_at ag ng capg zg pg jg GF.out.2.1 0 0 rfl (by omega) y HV.out.2 _ MS3.out.g.row).mono ?_
          rintro e u9 ⟨rfl, hb⟩
          have MS4 := Lib.hid (MS3.out.call hb)
          clear hb
          refine hK.out _ _ (KS.out _ MS4.out) (fun hHeld2 => ?_)
          clear hK K hHeld1
          try simp only [Act.put, List.getElem_toArray, List.getElem_cons_zero, List.getElem_cons_succ, List.setIfInBounds_toArray, List.set_cons_zero, List.set_cons_succ]
          refine wpAnyK_done (by kernel_rfl) ?_
          simp only [List.drop_succ_cons, List.drop_zero]
          clear hHeld2
          by_cases hxi : x = 4611686018427387904
          · have t1 : (x != 4611686018427387904) = false := by simpa using hxi
            clear hxi hle hmx hmy
            go_wp2_with fail
            go_roundw
            case rel => exact ⟨t + 1, by go_num, by omega, MS4⟩
            case measure => simp [intOf]; omega
          · have t1 : (x != 4611686018427387904) = true := by simpa using hxi
            by_cases hyi : y = 4611686018427387904
            · have t2 : (y != 4611686018427387904) = false := by simpa using hyi
              clear hxi hyi hle hmx hmy
              go_wp2_with fail
              go_roundw
              case rel => exact ⟨t + 1, by go_num, by omega, MS4⟩
              case measure => simp [intOf]; omega
            · have t2 : (y != 4611686018427387904) = true := by simpa using hyi
              rw [plI_fin hxi hyi] at hle
              have t3 : ¬ x + y < v := by omega
              have t4 : decide (x + y < v) = false := decide_eq_false t3
              have t5 : IntKind.i64.wrap (x + y) = x + y := IntWalk.i64_in _ ⟨by omega, by omega⟩
              clear hxi hyi hle hmx hmy
              go_wp2_with fail
              go_roundw
              case rel => exact ⟨t + 1, by go_num, by omega, MS4⟩
              case measure => simp [intOf]; omega
        · obtain rfl : t = 60 := by omega
          have HBL := Lib.hid MT.out.below
          obtain ⟨c0, c1, c2, c3, c4, c5⟩ := MT.out.a.box
          obtain ⟨d0, d1, d2, d3, d4, d5⟩ := MT.out.b.box
          go_wp2_with fail
          clear c0 c1 c2 c3 c4 c5 d0 d1 d2 d3 d4 d5
          with_reducible refine (ratMost_ok a2 n2 cap2 z2 p2 i2 HFa.out.good a3 n3 cap3 z3 p3 i3 HFb.out.good 0 false _ MT.out.a.row MT.out.b.row EX.out).mono ?_
          rintro e u8 ⟨rfl, hb⟩
          have HBM := Lib.hid (HBL.out.trans (hb.mono HBL.out.size))
          clear hb
          go_wp2_with fail
          refine (awake7 _).mono ?_
          rintro e u9 ⟨rfl, hb⟩
          have HBN := Lib.hid (HBM.out.trans (hb.mono HBM.out.size))
          clear hb
          go_wp2_with fail
          go_ret
          exact ⟨rfl, HBN.out⟩
    · have HBC := Lib.hid hB
      clear hB
      obtain ⟨c0, c1, c2, c3, c4, c5⟩ := Xm_2.out.box
      obtain ⟨d0, d1, d2, d3, d4, d5⟩ := Xg_2.out.box
      go_wp2_with fail
      try rw [hw2]
      clear hw2
      clear c0 c1 c2 c3 c4 c5 d0 d1 d2 d3 d4 d5
      with_reducible refine ((cof_day a1 n1 cap1 z1 p1 i1 HFm.out.good ag ng capg zg pg jg GF.out.2.1 DM.out DF.out.2.1 _ Xm_2.out.row Xg_2.out.row).mono fun _ _ h => h.no HBC.out).mono ?_
      rintro e v3 ⟨rfl, hb⟩
      obtain ⟨w3, hw⟩ : ∃ W, v3.alloc (.cells #[.slice none 0 0, .int .i64 0, .int .i64 0] 24) = W := ⟨_, rfl⟩
      have hz : Below w2.heap.size w2 w3 := by rw [← hw]; exact hb.trans ((below_box _).mono hb.size)
      have Xf_3 := Lib.hid (Xf_2.out.under hz)
      have Xg_3 := Lib.hid (Xg_2.out.under hz)
      have Xd_3 := Lib.hid (Xd_2.out.under hz)
      have Xm_3 := Lib.hid (Xm_2.out.under hz)
      have Xa_3 := Lib.hid (Xa_2.out.under hz)
      have HB_3 := Lib.hid (HB_2.out.trans (hz.mono HB_2.out.size))
      have Xb_3 := Lib.hid (show Bx w3 v3.heap.size none 0 0 ((0 : Nat)) 0 [] by rw [← hw]; exact Bx.new (rowZ_none _))
      have HWK3 := Lib.hid hw
      clear hb hz hw
      go_upto_region 6 with fail
      try rw [HWK3.out]
      go_wp2_with fail
      with_reducible refine (awake7 _).mono ?_
      rintro e w4 ⟨rfl, hb⟩
      have HBZ := Lib.hid (HB_3.out.trans (hb.mono HB_3.out.size))
      clear hb
      go_wp2_with fail
      go_ret
      exact ⟨rfl, HBZ.out⟩
  · have HA := Lib.hid hA
    clear hA
    obtain ⟨c0, c1, c2, c3, c4, c5⟩ := Xf_1.out.box
    obtain ⟨d0, d1, d2, d3, d4, d5⟩ := Xg_1.out.box
    go_wp2_with fail
    try rw [hw1]
    clear hw1
    clear c0 c1 c2 c3 c4 c5 d0 d1 d2 d3 d4 d5
    with_reducible refine ((cof_day af nf capf zf pf jf GF.out.1 ag ng capg zg pg jg GF.out.2.1 DF.out.1 DF.out.2.1 _ Xf_1.out.row Xg_1.out.row).mono fun _ _ h => h.no HA.out).mono ?_
    rintro e v2 ⟨rfl, hb⟩
    obtain ⟨w2, hw⟩ : ∃ W, v2.alloc (.cells #[.slice none 0 0, .int .i64 0, .int .i64 0] 24) = W := ⟨_, rfl⟩
    have hz : Below w1.heap.size w1 w2 := by rw [← hw]; exact hb.trans ((below_box _).mono hb.size)
    have Xf_2 := Lib.hid (Xf_1.out.under hz)
    have Xg_2 := Lib.hid (Xg_1.out.under hz)
    have Xd_2 := Lib.hid (Xd_1.out.under hz)
    have Xm_2 := Lib.hid (Xm_1.out.under hz)
    have HB_2 := Lib.hid (HB_1.out.trans (hz.mono HB_1.out.size))
    have Xa_2 := Lib.hid (show Bx w2 v2.heap.size none 0 0 ((0 : Nat)) 0 [] by rw [← hw]; exact Bx.new (rowZ_none _))
    have HWK2 := Lib.hid hw
    clear hb hz hw
    by_cases hB : ECan (eConv z1 p1 i1 zg pg jg)
    · have HBC := Lib.hid hB
      clear hB
      obtain ⟨c0, c1, c2, c3, c4, c5⟩ := Xm_2.out.box
      obtain ⟨d0, d1, d2, d3, d4, d5⟩ := Xg_2.out.box
      go_upto_region 5 with fail
      try rw [HWK2.out]
      go_wp2_with fail
      clear c0 c1 c2 c3 c4 c5 d0 d1 d2 d3 d4 d5
      with_reducible refine ((cof_day a1 n1 cap1 z1 p1 i1 HFm.out.good ag ng capg zg pg jg GF.out.2.1 DM.out DF.out.2.1 _ Xm_2.out.row Xg_2.out.row).mono fun _ _ h => h.ok HBC.out).mono ?_
      rintro e v3 ⟨a3, n3, cap3, z3, p3, i3, rfl, hb, hr, hf, hx⟩
      obtain ⟨w3, hw⟩ : ∃ W, v3.alloc (.cells #[.slice a3 n3 cap3, .int .i64 p3, .int .i64 i3] 24) = W := ⟨_, rfl⟩
      have hz : Below w2.heap.size w2 w3 := by rw [← hw]; exact hb.trans ((below_box _).mono hb.size)
      have Xf_3 := Lib.hid (Xf_2.out.under hz)
      have Xg_3 := Lib.hid (Xg_2.out.under hz)
      have Xd_3 := Lib.hid (Xd_2.out.under hz)
      have Xm_3 := Lib.hid (Xm_2.out.under hz)
      have Xa_3 := Lib.hid (Xa_2.out.under hz)
      have HB_3 := Lib.hid (HB_2.out.trans (hz.mono HB_2.out.size))
      have Xb_3 := Lib.hid (show Bx w3 v3.heap.size a3 n3 cap3 p3 i3 z3 by rw [← hw]; exact Bx.new hr)
      have HFb := Lib.hid hf
      have hw3 := hw
      clear hb hr hf hx hz hw
      go_wp2_with fail
      try rw [hw3]
      clear hw3
      with_reducible refine (awake7 _).mono ?_
      rintro e w4 ⟨rfl, hb⟩
      have HBZ := Lib.hid (HB_3.out.trans (hb.mono HB_3.out.size))
      clear hb
      go_wp2_with fail
      go_ret
      exact ⟨rfl, HBZ.out⟩
    · have HBC := Lib.hid hB
      clear hB
      obtain ⟨c0, c1, c2, c3, c4, c5⟩ := Xm_2.out.box
      obtain ⟨d0, d1, d2, d3, d4, d5⟩ := Xg_2.out.box
      go_upto_region 5 with fail
      try rw [HWK2.out]
      go_wp2_with fail
      clear c0 c1 c2 c3 c4 c5 d0 d1 d2 d3 d4 d5
      with_reducible refine ((cof_day a1 n1 cap1 z1 p1 i1 HFm.out.good ag ng capg zg pg jg GF.out.2.1 DM.out DF.out.2.1 _ Xm_2.out.row Xg_2.out.row).mono fun _ _ h => h.no HBC.out).mono ?_
      rintro e v3 ⟨rfl, hb⟩
      obtain ⟨w3, hw⟩ : ∃ W, v3.alloc (.cells #[.slice none 0 0, .int .i64 0, .int .i64 0] 24) = W := ⟨_, rfl⟩
      have hz : Below w2.heap.size w2 w3 := by rw [← hw]; exact hb.trans ((below_box _).mono hb.size)
      have Xf_3 := Lib.hid (Xf_2.out.under hz)
      have Xg_3 := Lib.hid (Xg_2.out.under hz)
      have Xd_3 := Lib.hid (Xd_2.out.under hz)
      have Xm_3 := Lib.hid (Xm_2.out.under hz)
      have Xa_3 := Lib.hid (Xa_2.out.under hz)
      have HB_3 := Lib.hid (HB_2.out.trans (hz.mono HB_2.out.size))
      have Xb_3 := Lib.hid (show Bx w3 v3.heap.size none 0 0 ((0 : Nat)) 0 [] by rw [← hw]; exact Bx.new (rowZ_none _))
      have HWK3 := Lib.hid hw
      clear hb hz hw
      go_upto_region 6 with fail
      try rw [HWK3.out]
      go_wp2_with fail
      with_reducible refine (awake7 _).mono ?_
      rintro e w4 ⟨rfl, hb⟩
      have HBZ := Lib.hid (HB_3.out.trans (hb.mono HB_3.out.size))
      clear hb
      go_wp2_with fail
      go_ret
      exact ⟨rfl, HBZ.out⟩

end Go.Proofs.Ytladmpoopfabdaa
