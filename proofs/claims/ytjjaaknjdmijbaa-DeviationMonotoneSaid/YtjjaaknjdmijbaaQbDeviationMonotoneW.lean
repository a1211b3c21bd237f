/- The walk of DeviationMonotone. By the verifier's side. -/
import Derived.Test.YtjjaaknjdmijbaaQbDevHDevI
import Derived.Test.YtjjaaknjdmijbaaQbR5D
namespace Go.Proofs.Ytjjaaknjdmijbaa
open Go.RowKit
set_option linter.unusedSimpArgs false
set_option linter.unusedVariables false

theorem niceM_sum {zs ys : List Int} {p q : Nat} {inc jnc : Int} (h : Nice 500000 (eC zs p inc)) (k : Nice 500000 (eC ys q jnc)) : ECan (eSum zs p inc ys q jnc) ∧ Nice 1000000 (eSum zs p inc ys q jnc) := by
  have := h.sum k
  exact ⟨Nice.can (E := eSum zs p inc ys q jnc) this (by omega), this⟩
/-- What is known of a sum's curve. -/
structure GrownM (zf : List Int) (pf : Nat) (jf : Int) (zm : List Int) (pm : Nat) (jm : Int) : Prop where
  good : Good zm pm jm
  day : Day (eC zm pm jm)
  le : ∀ t, ole (eC zf pf jf t) (eC zm pm jm t)

theorem rsum_dayM (a1 : Option Addr) (n1 cap1 : Nat) (z1 : List Int) (p1 : Nat) (i1 : Int) (g1 : Good z1 p1 i1) (a2 : Option Addr) (n2 cap2 : Nat) (z2 : List Int) (p2 : Nat) (i2 : Int) (g2 : Good z2 p2 i2) (h1 : Nice 500000 (eC z1 p1 i1)) (h2 : Nice 500000 (eC z2 p2 i2))
    (w : World) (r1 : RowZ w a1 n1 cap1 z1) (r2 : RowZ w a2 n2 cap2 z2) : Calls Try.prog 70 #[curV a1 n1 cap1 p1 i1, curV a2 n2 cap2 p2 i2] w (GivesOk (eSum z1 p1 i1 z2 p2 i2) w) := by
  obtain ⟨L, hL, hl⟩ := lcm_day g1 g2 h1.day h2.day
  exact (rsum_ok a1 n1 cap1 z1 p1 i1 g1 a2 n2 cap2 z2 p2 i2 g2 L hl hL w r1 r2).mono fun _ _ h => h.ok (niceM_sum h1 h2).1
theorem grownM_of {zf zd zm : List Int} {pf pd pm : Nat} {jf jd jm : Int} (gd : Good zd pd jd) (h1 : Nice 500000 (eC zf pf jf)) (h2 : Nice 500000 (eC zd pd jd)) (hm : EForm zm pm jm (eSum zf pf jf zd pd jd)) : GrownM zf pf jf zm pm jm :=
  ⟨hm.good, (niceM_sum h1 h2).2.day.of hm.val, fun t => ole_more (xs := zm) gd hm.val t⟩


set_option maxRecDepth 100000 in
set_option maxHeartbeats 6400000 in
theorem deviationMonotone_walk (W : World) (a : Option Addr) (n cap : Nat) (hrow : RowAt W a n cap) :
    Calls Try.prog 11 #[.slice a n cap] W fun e w' => e = .returned (.bool true) ∧ Below W.heap.size W w' := by
  have HR := Lib.hid hrow
  clear hrow
  go_enter Try.func11, Try.ntmps11
  go_wp2_with fail
  refine (new_any a n cap _ HR.out).mono ?_
  rintro e u1 ⟨rfl, hb1, hz1, ra, rn, rc, hs1⟩
  have HB1 := Lib.hid hb1
  have HS1 := Lib.hid hs1
  have Z1 := Lib.hid hz1
  clear hb1 hz1 hs1
  go_wp2_with fail
  refine (curve_any 5 (by omega) (by omega) _ ra rn rc _ HS1.out).mono ?_
  rintro e u2 ⟨af, nf, capf, zf, pf, jf, rfl, hs2, he2, hr2, ok2, hx2⟩
  have OF := Lib.hid (And.intro ok2.good ((drawn_nice ok2 (by omega)).le (show (10000 : Int) ≤ 500000 by omega)))
  have HS2 := Lib.hid hs2
  have R2 := Lib.hid hr2
  have X2 := Lib.hid (show ∀ x, af = some x → ¬ x.block = W.heap.size from fun x hx => by have := hx2 x hx; have := Z1.out; omega)
  have HB2 := Lib.hid (HB1.out.trans (he2.below (Nat.le_refl _) HB1.out.size))
  clear hs2 he2 hr2 ok2 hx2
  go_wp2_with fail
  refine (curve_any 5 (by omega) (by omega) _ ra rn rc _ HS2.out).mono ?_
  rintro e u3 ⟨ag, ng, capg, zg, pg, jg, rfl, hs3, he3, hr3, ok3, hx3⟩
  have OG := Lib.hid (And.intro ok3.good ((drawn_nice ok3 (by omega)).le (show (10000 : Int) ≤ 500000 by omega)))
  have HS3 := Lib.hid hs3
  have R3 := Lib.hid (And.intro (R2.out.apart he3 X2.out) hr3)
  have h9 : W.heap.size < u2.heap.size := lt_of_cell (src_cell HS2.out)
  have X3 := Lib.hid (show ∀ x, ag = some x → ¬ x.block = W.heap.size from fun x hx => by have := hx3 x hx; omega)
  have HB3 := Lib.hid (HB2.out.trans (he3.below (Nat.le_refl _) HB2.out.size))
  clear hs3 he3 hr3 ok3 hx3 h9
  obtain ⟨w0, hw⟩ : ∃ w', (u3.alloc (.cells #[.slice af nf capf, .int .i64 pf, .int .i64 jf] 24)).alloc (.cells #[.slice ag ng capg, .int .i64 pg, .int .i64 jg] 24) = w' := ⟨_, rfl⟩
  have hz : Below u3.heap.size u3 w0 := by rw [← hw]; exact (below_box _).alloc (by simp) _
  have Q0 := Lib.hid (show MQ W W.heap.size u3.heap.size (u3.heap.size + 1) af nf capf zf pf jf ag ng capg zg pg jg ra rn rc w0.drew from MQ.call (u := w0) ⟨by rw [← hw]; exact (Bx.new R3.out.1).under (below_box _), by
    rw [← hw]
    have := Bx.new (p := pg) (inc := jg) (R3.out.2.alloc (.cells #[.slice af nf capf, .int .i64 pf, .int .i64 jf] 24))
    rwa [show (u3.alloc (.cells #[.slice af nf capf, .int .i64 pf, .int .i64 jf] 24)).heap.size = u3.heap.size + 1 by simp] at this, src_under HS3.out hz, HB3.out.trans (hz.mono HB3.out.size), lt_of_cell (src_cell HS3.out), Nat.lt_succ_of_lt (lt_of_cell (src_cell HS3.out)), Nat.le_refl _, X2.out, X3.out, src_far HS3.out⟩ (Below.refl _ _).drew)
  have SW0 := Lib.hid (show u3.heap.size + 2 = w0.heap.size by rw [← hw]; simp)
  have FF := Lib.hid (And.intro R3.out.1.far R3.out.2.far)
  have HW0 := Lib.hid hw
  clear hw hz HB1 HB2 HB3 HS1 HS2 HS3 R2 R3 X2 X3
  go_upto_region 3 with fail
  try rw [HW0.out]
  clear HW0
  obtain ⟨F, hF⟩ : ∃ F, u3.heap.size = F := ⟨_, rfl⟩
  rw [hF] at Q0 SW0 FF ⊢
  clear hF
  obtain ⟨G, hG⟩ : ∃ G, F + 1 = G := ⟨_, rfl⟩
  rw [hG] at Q0 ⊢
  clear hG
  go_cut [6, 7] (fun s6 s7 wx => ∃ (M : Nat) (am : Option Addr) (nm capm : Nat) (zm : List Int) (pm : Nat) (jm : Int), s6 = .pointer (some ⟨M, 0, none⟩) ∧ s7 = .int .i64 0 ∧ F < M ∧ G < M ∧ Hid (GrownM zf pf jf zm pm jm) ∧ Hid (∀ x, am = some x → 1 ≤ nm → x.block < wx.heap.size) ∧ Hid (MR W W.heap.size F G af nf capf zf pf jf ag ng capg zg pg jg ra rn rc M am nm capm zm pm jm wx))
  case first =>
    refine wp_region_keeps (fun u => MQS W W.heap.size F G af nf capf zf pf jf ag ng capg zg pg jg ra rn rc u) 9 1 (by kernel_rfl) (by kernel_rfl) (mqs_of Q0.out) (fun hHeld0 => ?_)
    refine wpAnyK_take (i := 0) (v := ?_) rfl (by kernel_rfl) (fun _ _ _ h => h) (Or.inl ⟨by rfl, ?_⟩) (by assumption) ?_
    rotate_left
    · (intro w hSw; (try dsimp only at hSw); go_simp; try with_reducible rfl)
    try simp only [Act.put, List.getElem_toArray, List.getElem_cons_zero, List.getElem_cons_succ, List.setIfInBounds_toArray, List.set_cons_zero, List.set_cons_succ]
    refine wpAnyK_take (i := 1) (v := ?_) rfl (by kernel_rfl) (fun _ _ _ h => h) (Or.inl ⟨by rfl, ?_⟩) (by assumption) ?_
    rotate_left
    · (intro w hSw; (try dsimp only at hSw); go_simp; try with_reducible rfl)
    try simp only [Act.put, List.getElem_toArray, List.getElem_cons_zero, List.getElem_cons_succ, List.setIfInBounds_toArray, List.set_cons_zero, List.set_cons_succ]
    refine wpAnyK_two (i := 2) (j := 7) rfl rfl (by kernel_rfl) (fun K hK => ?_) (fun K hK => ?_)
    · go_simp
      refine (curve_any 3 (by omega) (by omega) _ ra rn rc _ Q0.out.src).mono ?_
      rintro e x1 ⟨ad, nd, capd, zd, pd, jd, rfl, hs, he, hr, ok, hx⟩
      have OD := Lib.hid (And.intro ok.good ((drawn_nice ok (by omega)).le (show (10000 : Int) ≤ 500000 by omega)))
      clear ok
      have T1 := Lib.hid (Q0.out.read hs he)
      have RD := Lib.hid hr
      have L2 := Lib.hid (show w0.drew.heap.size ≤ x1.heap.size from he.size)
      refine hK.out _ _ (mqs_of T1.out) (fun hHeld1 => ?_)
      clear hK K hHeld0 hs he hr hx
      try simp only [Act.put, List.getElem_toArray, List.getElem_cons_zero, List.getElem_cons_succ, List.setIfInBounds_toArray, List.set_cons_zero, List.set_cons_succ]
      refine wpAnyK_two (i := 3) (j := 7) rfl rfl (by kernel_rfl) (fun K hK => ?_) (fun K hK => ?_)
      · go_simp
        with_reducible refine (rsum_dayM af nf capf zf pf jf OF.out.1 ad nd capd zd pd jd OD.out.1 OF.out.2 OD.out.2 _ T1.out.f.row RD.out).mono ?_
        rintro e x2 ⟨ax, nx, capx, zx, px, jx, rfl, hb, hr, hf, hx⟩
        have T2 := Lib.hid (T1.out.call hb)
        have RX := Lib.hid hr
        have HFX := Lib.hid hf
        have XX := Lib.hid (show ∀ y, ax = some y → x1.heap.size ≤ y.block from hx)
        have L3 := Lib.hid (show x1.heap.size ≤ x2.heap.size from hb.size)
        refine hK.out _ _ (mqs_of T2.out) (fun hHeld2 => ?_)
        clear hK K hHeld1 hb hr hf hx
        try simp only [Act.put, List.getElem_toArray, List.getElem_cons_zero, List.getElem_cons_succ, List.setIfInBounds_toArray, List.set_cons_zero, List.set_cons_succ]
        refine wpAnyK_take (i := 4) (v := ?_) rfl (by kernel_rfl) (fun _ _ _ h => h) (Or.inl ⟨by rfl, ?_⟩) (by assumption) ?_
        rotate_left
        · (intro w hSw; (try dsimp only at hSw); go_simp; try with_reducible rfl)
        try simp only [Act.put, List.getElem_toArray, List.getElem_cons_zero, List.getElem_cons_succ, List.setIfInBounds_toArray, List.set_cons_zero, List.set_cons_succ]
        refine wpAnyK_take (i := 5) (v := ?_) rfl (by kernel_rfl) (fun _ _ _ h => h) (Or.inl ⟨by rfl, ?_⟩) (by assumption) ?_
        rotate_left
        · (intro w hSw; (try dsimp only at hSw); go_simp; try with_reducible rfl)
        try simp only [Act.put, List.getElem_toArray, List.getElem_cons_zero, List.getElem_cons_succ, List.setIfInBounds_toArray, List.set_cons_zero, List.set_cons_succ]
        refine wpAnyK_take (i := 6) (v := ?_) rfl (by kernel_rfl) (fun _ _ _ h => h) (Or.inl ⟨by rfl, ?_⟩) (by assumption) ?_
        rotate_left
        · (intro w hSw; (try dsimp only at hSw); go_simp; try with_reducible rfl)
        try simp only [Act.put, List.getElem_toArray, List.getElem_cons_zero, List.getElem_cons_succ, List.setIfInBounds_toArray, List.set_cons_zero, List.set_cons_succ]
        refine wpAnyK_step (i := 7) rfl (by kernel_rfl) (fun K hK => ?_)
        go_simp
        obtain ⟨x3, hux3⟩ : ∃ W', x2.alloc (.cells #[.slice none 0 0, .int .i64 0, .int .i64 0] 24) = W' := ⟨_, rfl⟩
        have hvx3 := hux3
        have hbx3 : Below x2.heap.size x2 x3 := by rw [← hux3]; exact below_box _
        have NB := Lib.hid (show Cur3 x3 x2.heap.size (.slice none 0 0) (.int .i64 0) (.int .i64 0) by rw [← hux3]; exact Cur3.new x2 _ _ _ _)
        have T3 := Lib.hid (T2.out.call hbx3)
        have RXb := Lib.hid (RX.out.under hbx3)
        have LE := Lib.hid (show w0.heap.size ≤ x2.heap.size ∧ x2.heap.size < x3.heap.size from ⟨Nat.le_trans L2.out L3.out, by rw [← hux3]; simp⟩)
        rw [hvx3]
        clear hux3 hvx3
        refine hK.out _ _ (mqs_of T3.out) (fun hHeld3 => ?_)
        clear hK K hHeld2 hbx3
        try simp only [Act.put, List.getElem_toArray, List.getElem_cons_zero, List.getElem_cons_succ, List.setIfInBounds_toArray, List.set_cons_zero, List.set_cons_succ]
        have h7 : w0.drew.heap.size = w0.heap.size := rfl
        have lf := Q0.out.f.box.lt
        have lg := Q0.out.g.box.lt
        have le1 := LE.out.1
        have le2 := LE.out.2
        have hFB : F < x2.heap.size := by omega
        have hGB : G < x2.heap.size := by omega
        have qx : ∀ y, ax = some y → 1 ≤ nx → y.block ≠ x2.heap.size := fun y hy hn => by have := RX.out.far y hy hn; omega
        have qf : ∀ y, af = some y → 1 ≤ nf → y.block ≠ x2.heap.size := fun y hy hn => by have := FF.out.1 y hy hn; omega
        have qg : ∀ y, ag = some y → 1 ≤ ng → y.block ≠ x2.heap.size := fun y hy hn => by have := FF.out.2 y hy hn; omega
        have hbF := T3.out.bF
        have xm : ∀ y, ax = some y → ¬ y.block = W.heap.size := fun y hy => by have := XX.out y hy; have := L2.out; have := Q0.out.f.box.lt; have := Q0.out.bF; have h7 : w0.drew.heap.size = w0.heap.size := rfl; omega
        have HP := Lib.hid (show MR W W.heap.size F G af nf capf zf pf jf ag ng capg zg pg jg ra rn rc x2.heap.size ax nx capx zx px jx (((x3.setCell ⟨x2.heap.size, 0, none⟩ (.slice ax nx capx)).setCell ⟨x2.heap.size, 1, none⟩ (.int .i64 px)).setCell ⟨x2.heap.size, 2, none⟩ (.int .i64 jx)) from ⟨((T3.out.other hFB hGB qf qg _ _).other hFB hGB qf qg _ _).other hFB hGB qf qg _ _, ⟨NB.out.set _ _ _, ((RXb.out.store qx _ _).store qx _ _).store qx _ _⟩, by omega, xm⟩)
        have HQ := Lib.hid (show ∀ y, ax = some y → 1 ≤ nx → y.block < (((x3.setCell ⟨x2.heap.size, 0, none⟩ (.slice ax nx capx)).setCell ⟨x2.heap.size, 1, none⟩ (.int .i64 px)).setCell ⟨x2.heap.size, 2, none⟩ (.int .i64 jx)).heap.size from HP.out.m.row.far)
        have HGR := Lib.hid (grownM_of OD.out.1 OF.out.2 OD.out.2 HFX.out)
        obtain ⟨n0, n1, n2, n3, n4, n5⟩ := NB.out
        clear qx qf qg le1 le2 lf lg h7
        refine wpAnyK_step (i := 8) rfl (by kernel_rfl) (fun K hK => ?_)
        go_simp
        refine hK.out _ _ (mqs_of HP.out.q) (fun hHeld9 => ?_)
        clear hK K hHeld3
        try simp only [Act.put, List.getElem_toArray, List.getElem_cons_zero, List.getElem_cons_succ, List.setIfInBounds_toArray, List.set_cons_zero, List.set_cons_succ]
        refine wpAnyK_done (by kernel_rfl) ?_
        simp only [List.drop_succ_cons, List.drop_zero]
        clear hHeld9
        go_wp2_with fail
        go_meet
        exact ⟨x2.heap.size, ax, nx, capx, zx, px, jx, rfl, rfl, hFB, hGB, HGR, HQ, HP⟩
      · go_simp
        obtain ⟨x2, hux2⟩ : ∃ W', x1.alloc (.cells #[.slice none 0 0, .int .i64 0, .int .i64 0] 24) = W' := ⟨_, rfl⟩
        have hvx2 := hux2
        have hbx2 : Below x1.heap.size x1 x2 := by rw [← hux2]; exact below_box _
        have NB := Lib.hid (show Cur3 x2 x1.heap.size (.slice none 0 0) (.int .i64 0) (.int .i64 0) by rw [← hux2]; exact Cur3.new x1 _ _ _ _)
        have T2 := Lib.hid (T1.out.call hbx2)
        have RDb := Lib.hid (RD.out.under hbx2)
        have LE := Lib.hid (show w0.heap.size ≤ x1.heap.size ∧ x1.heap.size < x2.heap.size from ⟨L2.out, by rw [← hux2]; simp⟩)
        rw [hvx2]
        clear hux2 hvx2
        refine hK.out _ _ (mqs_of T2.out) (fun hHeld2 => ?_)
        clear hK K hHeld1 hbx2
        try simp only [Act.put, List.getElem_toArray, List.getElem_cons_zero, List.getElem_cons_succ, List.setIfInBounds_toArray, List.set_cons_zero, List.set_cons_succ]
        refine wpAnyK_step (i := 3) rfl (by kernel_rfl) (fun K hK => ?_)
        go_simp
        with_reducible refine (rsum_dayM af nf capf zf pf jf OF.out.1 ad nd capd zd pd jd OD.out.1 OF.out.2 OD.out.2 _ T2.out.f.row RDb.out).mono ?_
        rintro e x3 ⟨ax, nx, capx, zx, px, jx, rfl, hb, hr, hf, hx⟩
        have T3 := Lib.hid (T2.out.call hb)
        have RX := Lib.hid hr
        have HFX := Lib.hid hf
        have XX := Lib.hid (show ∀ y, ax = some y → x2.heap.size ≤ y.block from hx)
        have L3 := Lib.hid (show x2.heap.size ≤ x3.heap.size from hb.size)
        have NBs := Lib.hid (NB.out.below hb)
        refine hK.out _ _ (mqs_of T3.out) (fun hHeld3 => ?_)
        clear hK K hHeld2 hb hr hf hx
        try simp only [Act.put, List.getElem_toArray, List.getElem_cons_zero, List.getElem_cons_succ, List.setIfInBounds_toArray, List.set_cons_zero, List.set_cons_succ]
        refine wpAnyK_take (i := 4) (v := ?_) rfl (by kernel_rfl) (fun _ _ _ h => h) (Or.inl ⟨by rfl, ?_⟩) (by assumption) ?_
        rotate_left
        · (intro w hSw; (try dsimp only at hSw); go_simp; try with_reducible rfl)
        try simp only [Act.put, List.getElem_toArray, List.getElem_cons_zero, List.getElem_cons_succ, List.setIfInBounds_toArray, List.set_cons_zero, List.set_cons_succ]
        refine wpAnyK_take (i := 5) (v := ?_) rfl (by kernel_rfl) (fun _ _ _ h => h) (Or.inl ⟨by rfl, ?_⟩) (by assumption) ?_
        rotate_left
        · (intro w hSw; (try dsimp only at hSw); go_simp; try with_reducible rfl)
        try simp only [Act.put, List.getElem_toArray, List.getElem_cons_zero, List.getElem_cons_succ, List.setIfInBounds_toArray, List.set_cons_zero, List.set_cons_succ]
        refine wpAnyK_take (i := 6) (v := ?_) rfl (by kernel_rfl) (fun _ _ _ h => h) (Or.inl ⟨by rfl, ?_⟩) (by assumption) ?_
        rotate_left
        · (intro w hSw; (try dsimp only at hSw); go_simp; try with_reducible rfl)
        try simp only [Act.put, List.getElem_toArray, List.getElem_cons_zero, List.getElem_cons_succ, List.setIfInBounds_toArray, List.set_cons_zero, List.set_cons_succ]
        have h7 : w0.drew.heap.size = w0.heap.size := rfl
        have lf := Q0.out.f.box.lt
        have lg := Q0.out.g.box.lt
        have le1 := LE.out.1
        have le2 := LE.out.2
        have hFB : F < x1.heap.size := by omega
        have hGB : G < x1.heap.size := by omega
        have qx : ∀ y, ax = some y → 1 ≤ nx → y.block ≠ x1.heap.size := fun y hy hn => by have := XX.out y hy; omega
        have qf : ∀ y, af = some y → 1 ≤ nf → y.block ≠ x1.heap.size := fun y hy hn => by have := FF.out.1 y hy hn; omega
        have qg : ∀ y, ag = some y → 1 ≤ ng → y.block ≠ x1.heap.size := fun y hy hn => by have := FF.out.2 y hy hn; omega
        have hbF := T3.out.bF
        have xm : ∀ y, ax = some y → ¬ y.block = W.heap.size := fun y hy => by have := XX.out y hy; have := L2.out; have := LE.out; have := Q0.out.f.box.lt; have := Q0.out.bF; have h7 : w0.drew.heap.size = w0.heap.size := rfl; omega
        have HP := Lib.hid (show MR W W.heap.size F G af nf capf zf pf jf ag ng capg zg pg jg ra rn rc x1.heap.size ax nx capx zx px jx (((x3.setCell ⟨x1.heap.size, 0, none⟩ (.slice ax nx capx)).setCell ⟨x1.heap.size, 1, none⟩ (.int .i64 px)).setCell ⟨x1.heap.size, 2, none⟩ (.int .i64 jx)) from ⟨((T3.out.other hFB hGB qf qg _ _).other hFB hGB qf qg _ _).other hFB hGB qf qg _ _, ⟨NBs.out.set _ _ _, ((RX.out.store qx _ _).store qx _ _).store qx _ _⟩, by omega, xm⟩)
        have HQ := Lib.hid (show ∀ y, ax = some y → 1 ≤ nx → y.block < (((x3.setCell ⟨x1.heap.size, 0, none⟩ (.slice ax nx capx)).setCell ⟨x1.heap.size, 1, none⟩ (.int .i64 px)).setCell ⟨x1.heap.size, 2, none⟩ (.int .i64 jx)).heap.size from HP.out.m.row.far)
        have HGR := Lib.hid (grownM_of OD.out.1 OF.out.2 OD.out.2 HFX.out)
        obtain ⟨n0, n1, n2, n3, n4, n5⟩ := NBs.out
        clear qx qf qg le1 le2 lf lg h7
        refine wpAnyK_step (i := 8) rfl (by kernel_rfl) (fun K hK => ?_)
        go_simp
        refine hK.out _ _ (mqs_of HP.out.q) (fun hHeld9 => ?_)
        clear hK K hHeld3
        try simp only [Act.put, List.getElem_toArray, List.getElem_cons_zero, List.getElem_cons_succ, List.setIfInBounds_toArray, List.set_cons_zero, List.set_cons_succ]
        refine wpAnyK_done (by kernel_rfl) ?_
        simp only [List.drop_succ_cons, List.drop_zero]
        clear hHeld9
        go_wp2_with fail
        go_meet
        exact ⟨x1.heap.size, ax, nx, capx, zx, px, jx, rfl, rfl, hFB, hGB, HGR, HQ, HP⟩
    · go_simp
      obtain ⟨x1, hvx1⟩ : ∃ W', (w0.alloc (.cells #[.slice none 0 0, .int .i64 0, .int .i64 0] 24)).drew = W' := ⟨_, rfl⟩
      have hux1 : w0.drew.alloc (.cells #[.slice none 0 0, .int .i64 0, .int .i64 0] 24) = x1 := hvx1
      have hbx1 : Below w0.drew.heap.size w0.drew x1 := by rw [← hux1]; exact below_box _
      have NB := Lib.hid (show Cur3 x1 w0.heap.size (.slice none 0 0) (.int .i64 0) (.int .i64 0) by rw [← hux1]; exact Cur3.new w0.drew _ _ _ _)
      have T1 := Lib.hid (Q0.out.call hbx1)
      have LE := Lib.hid (show w0.heap.size ≤ w0.drew.heap.size ∧ w0.drew.heap.size < x1.heap.size from ⟨Nat.le_refl _, by rw [← hux1]; simp⟩)
      rw [hvx1]
      clear hux1 hvx1
      refine hK.out _ _ (mqs_of T1.out) (fun hHeld1 => ?_)
      clear hK K hHeld0 hbx1
      try simp only [Act.put, List.getElem_toArray, List.getElem_cons_zero, List.getElem_cons_succ, List.setIfInBounds_toArray, List.set_cons_zero, List.set_cons_succ]
      refine wpAnyK_step (i := 2) rfl (by kernel_rfl) (fun K hK => ?_)
      go_simp
      refine (curve_any 3 (by omega) (by omega) _ ra rn rc _ T1.out.src).mono ?_
      rintro e x2 ⟨ad, nd, capd, zd, pd, jd, rfl, hs, he, hr, ok, hx⟩
      have OD := Lib.hid (And.intro ok.good ((drawn_nice ok (by omega)).le (show (10000 : Int) ≤ 500000 by omega)))
      clear ok
      have T2 := Lib.hid (T1.out.read hs he)
      have RD := Lib.hid hr
      have L2 := Lib.hid (show x1.heap.size ≤ x2.heap.size from he.size)
      have NBr := Lib.hid (NB.out.apart he (by have := LE.out.1; have := Q0.out.f.box.lt; have := Q0.out.bF; show _ ≠ _; have h7 : w0.drew.heap.size = w0.heap.size := rfl; omega))
      refine hK.out _ _ (mqs_of T2.out) (fun hHeld2 => ?_)
      clear hK K hHeld1 hs he hr hx
      try simp only [Act.put, List.getElem_toArray, List.getElem_cons_zero, List.getElem_cons_succ, List.setIfInBounds_toArray, List.set_cons_zero, List.set_cons_succ]
      refine wpAnyK_step (i := 3) rfl (by kernel_rfl) (fun K hK => ?_)
      go_simp
      with_reducible refine (rsum_dayM af nf capf zf pf jf OF.out.1 ad nd capd zd pd jd OD.out.1 OF.out.2 OD.out.2 _ T2.out.f.row RD.out).mono ?_
      rintro e x3 ⟨ax, nx, capx, zx, px, jx, rfl, hb, hr, hf, hx⟩
      have T3 := Lib.hid (T2.out.call hb)
      have RX := Lib.hid hr
      have HFX := Lib.hid hf
      have XX := Lib.hid (show ∀ y, ax = some y → x2.heap.size ≤ y.block from hx)
      have L3 := Lib.hid (show x2.heap.size ≤ x3.heap.size from hb.size)
      have NBrs := Lib.hid (NBr.out.below hb)
      refine hK.out _ _ (mqs_of T3.out) (fun hHeld3 => ?_)
      clear hK K hHeld2 hb hr hf hx
      try simp only [Act.put, List.getElem_toArray, List.getElem_cons_zero, List.getElem_cons_succ, List.setIfInBounds_toArray, List.set_cons_zero, List.set_cons_succ]
      refine wpAnyK_take (i := 4) (v := ?_) rfl (by kernel_rfl) (fun _ _ _ h => h) (Or.inl ⟨by rfl, ?_⟩) (by assumption) ?_
      rotate_left
      · (intro w hSw; (try dsimp only at hSw); go_simp; try with_reducible rfl)
      try simp only [Act.put, List.getElem_toArray, List.getElem_cons_zero, List.getElem_cons_succ, List.setIfInBounds_toArray, List.set_cons_zero, List.set_cons_succ]
      refine wpAnyK_take (i := 5) (v := ?_) rfl (by kernel_rfl) (fun _ _ _ h => h) (Or.inl ⟨by rfl, ?_⟩) (by assumption) ?_
      rotate_left
      · (intro w hSw; (try dsimp only at hSw); go_simp; try with_reducible rfl)
      try simp only [Act.put, List.getElem_toArray, List.getElem_cons_zero, List.getElem_cons_succ, List.setIfInBounds_toArray, List.set_cons_zero, List.set_cons_succ]
      refine wpAnyK_take (i := 6) (v := ?_) rfl (by kernel_rfl) (fun _ _ _ h => h) (Or.inl ⟨by rfl, ?_⟩) (by assumption) ?_
      rotate_left
      · (intro w hSw; (try dsimp only at hSw); go_simp; try with_reducible rfl)
      try simp only [Act.put, List.getElem_toArray, List.getElem_cons_zero, List.getElem_cons_succ, List.setIfInBounds_toArray, List.set_cons_zero, List.set_cons_succ]
      have h7 : w0.drew.heap.size = w0.heap.size := rfl
      have lf := Q0.out.f.box.lt
      have lg := Q0.out.g.box.lt
      have le1 := LE.out.1
      have le2 := LE.out.2
      have hFB : F < w0.heap.size := by omega
      have hGB : G < w0.heap.size := by omega
      have qx : ∀ y, ax = some y → 1 ≤ nx → y.block ≠ w0.heap.size := fun y hy hn => by have := XX.out y hy; have := L2.out; omega
      have qf : ∀ y, af = some y → 1 ≤ nf → y.block ≠ w0.heap.size := fun y hy hn => by have := FF.out.1 y hy hn; omega
      have qg : ∀ y, ag = some y → 1 ≤ ng → y.block ≠ w0.heap.size := fun y hy hn => by have := FF.out.2 y hy hn; omega
      have hbF := T3.out.bF
      have xm : ∀ y, ax = some y → ¬ y.block = W.heap.size := fun y hy => by have := XX.out y hy; have := L2.out; have := LE.out; have := Q0.out.f.box.lt; have := Q0.out.bF; have h7 : w0.drew.heap.size = w0.heap.size := rfl; omega
      have HP := Lib.hid (show MR W W.heap.size F G af nf capf zf pf jf ag ng capg zg pg jg ra rn rc w0.heap.size ax nx capx zx px jx (((x3.setCell ⟨w0.heap.size, 0, none⟩ (.slice ax nx capx)).setCell ⟨w0.heap.size, 1, none⟩ (.int .i64 px)).setCell ⟨w0.heap.size, 2, none⟩ (.int .i64 jx)) from ⟨((T3.out.other hFB hGB qf qg _ _).other hFB hGB qf qg _ _).other hFB hGB qf qg _ _, ⟨NBrs.out.set _ _ _, ((RX.out.store qx _ _).store qx _ _).store qx _ _⟩, by omega, xm⟩)
      have HQ := Lib.hid (show ∀ y, ax = some y → 1 ≤ nx → y.block < (((x3.setCell ⟨w0.heap.size, 0, none⟩ (.slice ax nx capx)).setCell ⟨w0.heap.size, 1, none⟩ (.int .i64 px)).setCell ⟨w0.heap.size, 2, none⟩ (.int .i64 jx)).heap.size from HP.out.m.row.far)
      have HGR := Lib.hid (grownM_of OD.out.1 OF.out.2 OD.out.2 HFX.out)
      obtain ⟨n0, n1, n2, n3, n4, n5⟩ := NBrs.out
      clear qx qf qg le1 le2 lf lg h7
      refine wpAnyK_step (i := 8) rfl (by kernel_rfl) (fun K hK => ?_)
      go_simp
      refine hK.out _ _ (mqs_of HP.out.q) (fun hHeld9 => ?_)
      clear hK K hHeld3
      try simp only [Act.put, List.getElem_toArray, List.getElem_cons_zero, List.getElem_cons_succ, List.setIfInBounds_toArray, List.set_cons_zero, List.set_cons_succ]
      refine wpAnyK_done (by kernel_rfl) ?_
      simp only [List.drop_succ_cons, List.drop_zero]
      clear hHeld9
      go_wp2_with fail
      go_meet
      exact ⟨w0.heap.size, ax, nx, capx, zx, px, jx, rfl, rfl, hFB, hGB, HGR, HQ, HP⟩
  case rest =>
  obtain ⟨M, am, nm, capm, zm, pm, jm, rfl, rfl, hFM, hGM, HM, FM, R0⟩ := hcut
  obtain ⟨w1, rfl⟩ : ∃ u : World, u = wc := ⟨_, rfl⟩
  clear Q0
  have Q1 := Lib.hid (R0.out.call (Below.refl _ _).drew)
  go_upto_region 4 with fail
  go_cut [8, 9] (fun s8 s9 wx => ∃ (T : Nat) (aq : Option Addr) (nq capq : Nat) (zq : List Int) (pq : Nat) (jq : Int), s8 = .pointer (some ⟨T, 0, none⟩) ∧ s9 = .int .i64 0 ∧ Hid (GrownM zg pg jg zq pq jq) ∧ Hid (Bx wx T aq nq capq pq jq zq) ∧ Hid (MR W W.heap.size F G af nf capf zf pf jf ag ng capg zg pg jg ra rn rc M am nm capm zm pm jm wx))
  case first =>
    refine wp_region_keeps (fun u => MRS W W.heap.size F G af nf capf zf pf jf ag ng capg zg pg jg ra rn rc M am nm capm zm pm jm u) 9 1 (by kernel_rfl) (by kernel_rfl) (mrs_of Q1.out) (fun hHeld0 => ?_)
    refine wpAnyK_take (i := 0) (v := ?_) rfl (by kernel_rfl) (fun _ _ _ h => h) (Or.inl ⟨by rfl, ?_⟩) (by assumption) ?_
    rotate_left
    · (intro w hSw; (try dsimp only at hSw); go_simp; try with_reducible rfl)
    try simp only [Act.put, List.getElem_toArray, List.getElem_cons_zero, List.getElem_cons_succ, List.setIfInBounds_toArray, List.set_cons_zero, List.set_cons_succ]
    refine wpAnyK_take (i := 1) (v := ?_) rfl (by kernel_rfl) (fun _ _ _ h => h) (Or.inl ⟨by rfl, ?_⟩) (by assumption) ?_
    rotate_left
    · (intro w hSw; (try dsimp only at hSw); go_simp; try with_reducible rfl)
    try simp only [Act.put, List.getElem_toArray, List.getElem_cons_zero, List.getElem_cons_succ, List.setIfInBounds_toArray, List.set_cons_zero, List.set_cons_succ]
    refine wpAnyK_two (i := 2) (j := 7) rfl rfl (by kernel_rfl) (fun K hK => ?_) (fun K hK => ?_)
    · go_simp
      refine (curve_any 3 (by omega) (by omega) _ ra rn rc _ Q1.out.q.src).mono ?_
      rintro e x1 ⟨ad, nd, capd, zd, pd, jd, rfl, hs, he, hr, ok, hx⟩
      have OD := Lib.hid (And.intro ok.good ((drawn_nice ok (by omega)).le (show (10000 : Int) ≤ 500000 by omega)))
      clear ok
      have T1 := Lib.hid (Q1.out.read hs he)
      have RD := Lib.hid hr
      have L2 := Lib.hid (show w1.drew.heap.size ≤ x1.heap.size from he.size)
      refine hK.out _ _ (mrs_of T1.out) (fun hHeld1 => ?_)
      clear hK K hHeld0 hs he hr hx
      try simp only [Act.put, List.getElem_toArray, List.getElem_cons_zero, List.getElem_cons_succ, List.setIfInBounds_toArray, List.set_cons_zero, List.set_cons_succ]
      refine wpAnyK_two (i := 3) (j := 7) rfl rfl (by kernel_rfl) (fun K hK => ?_) (fun K hK => ?_)
      · go_simp
        with_reducible refine (rsum_dayM ag ng capg zg pg jg OG.out.1 ad nd capd zd pd jd OD.out.1 OG.out.2 OD.out.2 _ T1.out.q.g.row RD.out).mono ?_
        rintro e x2 ⟨ax, nx, capx, zx, px, jx, rfl, hb, hr, hf, hx⟩
        have T2 := Lib.hid (T1.out.call hb)
        have RX := Lib.hid hr
        have HFX := Lib.hid hf
        have XX := Lib.hid (show ∀ y, ax = some y → x1.heap.size ≤ y.block from hx)
        have L3 := Lib.hid (show x1.heap.size ≤ x2.heap.size from hb.size)
        refine hK.out _ _ (mrs_of T2.out) (fun hHeld2 => ?_)
        clear hK K hHeld1 hb hr hf hx
        try simp only [Act.put, List.getElem_toArray, List.getElem_cons_zero, List.getElem_cons_succ, List.setIfInBounds_toArray, List.set_cons_zero, List.set_cons_succ]
        refine wpAnyK_take (i := 4) (v := ?_) rfl (by kernel_rfl) (fun _ _ _ h => h) (Or.inl ⟨by rfl, ?_⟩) (by assumption) ?_
        rotate_left
        · (intro w hSw; (try dsimp only at hSw); go_simp; try with_reducible rfl)
        try simp only [Act.put, List.getElem_toArray, List.getElem_cons_zero, List.getElem_cons_succ, List.setIfInBounds_toArray, List.set_cons_zero, List.set_cons_succ]
        refine wpAnyK_take (i := 5) (v := ?_) rfl (by kernel_rfl) (fun _ _ _ h => h) (Or.inl ⟨by rfl, ?_⟩) (by assumption) ?_
        rotate_left
        · (intro w hSw; (try dsimp only at hSw); go_simp; try with_reducible rfl)
        try simp only [Act.put, List.getElem_toArray, List.getElem_cons_zero, List.getElem_cons_succ, List.setIfInBounds_toArray, List.set_cons_zero, List.set_cons_succ]
        refine wpAnyK_take (i := 6) (v := ?_) rfl (by kernel_rfl) (fun _ _ _ h => h) (Or.inl ⟨by rfl, ?_⟩) (by assumption) ?_
        rotate_left
        · (intro w hSw; (try dsimp only at hSw); go_simp; try with_reducible rfl)
        try simp only [Act.put, List.getElem_toArray, List.getElem_cons_zero, List.getElem_cons_succ, List.setIfInBounds_toArray, List.set_cons_zero, List.set_cons_succ]
        refine wpAnyK_step (i := 7) rfl (by kernel_rfl) (fun K hK => ?_)
        go_simp
        obtain ⟨x3, hux3⟩ : ∃ W', x2.alloc (.cells #[.slice none 0 0, .int .i64 0, .int .i64 0] 24) = W' := ⟨_, rfl⟩
        have hvx3 := hux3
        have hbx3 : Below x2.heap.size x2 x3 := by rw [← hux3]; exact below_box _
        have NB := Lib.hid (show Cur3 x3 x2.heap.size (.slice none 0 0) (.int .i64 0) (.int .i64 0) by rw [← hux3]; exact Cur3.new x2 _ _ _ _)
        have T3 := Lib.hid (T2.out.call hbx3)
        have RXb := Lib.hid (RX.out.under hbx3)
        have LE := Lib.hid (show w1.heap.size ≤ x2.heap.size ∧ x2.heap.size < x3.heap.size from ⟨Nat.le_trans L2.out L3.out, by rw [← hux3]; simp⟩)
        rw [hvx3]
        clear hux3 hvx3
        refine hK.out _ _ (mrs_of T3.out) (fun hHeld3 => ?_)
        clear hK K hHeld2 hbx3
        try simp only [Act.put, List.getElem_toArray, List.getElem_cons_zero, List.getElem_cons_succ, List.setIfInBounds_toArray, List.set_cons_zero, List.set_cons_succ]
        have h7 : w1.drew.heap.size = w1.heap.size := rfl
        have lf := Q1.out.q.f.box.lt
        have lg := Q1.out.q.g.box.lt
        have le1 := LE.out.1
        have le2 := LE.out.2
        have hFB : F < x2.heap.size := by omega
        have hGB : G < x2.heap.size := by omega
        have qx : ∀ y, ax = some y → 1 ≤ nx → y.block ≠ x2.heap.size := fun y hy hn => by have := RX.out.far y hy hn; omega
        have qf : ∀ y, af = some y → 1 ≤ nf → y.block ≠ x2.heap.size := fun y hy hn => by have := FF.out.1 y hy hn; omega
        have qg : ∀ y, ag = some y → 1 ≤ ng → y.block ≠ x2.heap.size := fun y hy hn => by have := FF.out.2 y hy hn; omega
        have lm := Q1.out.m.box.lt
        have hMB : M < x2.heap.size := by omega
        have qm : ∀ y, am = some y → 1 ≤ nm → y.block ≠ x2.heap.size := fun y hy hn => by have := FM.out y hy hn; omega
        have HP := Lib.hid (show MR W W.heap.size F G af nf capf zf pf jf ag ng capg zg pg jg ra rn rc M am nm capm zm pm jm (((x3.setCell ⟨x2.heap.size, 0, none⟩ (.slice ax nx capx)).setCell ⟨x2.heap.size, 1, none⟩ (.int .i64 px)).setCell ⟨x2.heap.size, 2, none⟩ (.int .i64 jx)) from ((T3.out.other hFB hGB hMB qf qg qm _ _).other hFB hGB hMB qf qg qm _ _).other hFB hGB hMB qf qg qm _ _)
        have HX8 := Lib.hid (show Bx (((x3.setCell ⟨x2.heap.size, 0, none⟩ (.slice ax nx capx)).setCell ⟨x2.heap.size, 1, none⟩ (.int .i64 px)).setCell ⟨x2.heap.size, 2, none⟩ (.int .i64 jx)) x2.heap.size ax nx capx px jx zx from ⟨NB.out.set _ _ _, ((RXb.out.store qx _ _).store qx _ _).store qx _ _⟩)
        have HGR := Lib.hid (grownM_of OD.out.1 OG.out.2 OD.out.2 HFX.out)
        obtain ⟨n0, n1, n2, n3, n4, n5⟩ := NB.out
        clear qx qf qg le1 le2 lf lg h7 lm hMB qm
        refine wpAnyK_step (i := 8) rfl (by kernel_rfl) (fun K hK => ?_)
        go_simp
        refine hK.out _ _ (mrs_of HP.out) (fun hHeld9 => ?_)
        clear hK K hHeld3
        try simp only [Act.put, List.getElem_toArray, List.getElem_cons_zero, List.getElem_cons_succ, List.setIfInBounds_toArray, List.set_cons_zero, List.set_cons_succ]
        refine wpAnyK_done (by kernel_rfl) ?_
        simp only [List.drop_succ_cons, List.drop_zero]
        clear hHeld9
        go_wp2_with fail
        go_meet
        exact ⟨x2.heap.size, ax, nx, capx, zx, px, jx, rfl, rfl, HGR, HX8, HP⟩
      · go_simp
        obtain ⟨x2, hux2⟩ : ∃ W', x1.alloc (.cells #[.slice none 0 0, .int .i64 0, .int .i64 0] 24) = W' := ⟨_, rfl⟩
        have hvx2 := hux2
        have hbx2 : Below x1.heap.size x1 x2 := by rw [← hux2]; exact below_box _
        have NB := Lib.hid (show Cur3 x2 x1.heap.size (.slice none 0 0) (.int .i64 0) (.int .i64 0) by rw [← hux2]; exact Cur3.new x1 _ _ _ _)
        have T2 := Lib.hid (T1.out.call hbx2)
        have RDb := Lib.hid (RD.out.under hbx2)
        have LE := Lib.hid (show w1.heap.size ≤ x1.heap.size ∧ x1.heap.size < x2.heap.size from ⟨L2.out, by rw [← hux2]; simp⟩)
        rw [hvx2]
        clear hux2 hvx2
        refine hK.out _ _ (mrs_of T2.out) (fun hHeld2 => ?_)
        clear hK K hHeld1 hbx2
        try simp only [Act.put, List.getElem_toArray, List.getElem_cons_zero, List.getElem_cons_succ, List.setIfInBounds_toArray, List.set_cons_zero, List.set_cons_succ]
        refine wpAnyK_step (i := 3) rfl (by kernel_rfl) (fun K hK => ?_)
        go_simp
        with_reducible refine (rsum_dayM ag ng capg zg pg jg OG.out.1 ad nd capd zd pd jd OD.out.1 OG.out.2 OD.out.2 _ T2.out.q.g.row RDb.out).mono ?_
        rintro e x3 ⟨ax, nx, capx, zx, px, jx, rfl, hb, hr, hf, hx⟩
        have T3 := Lib.hid (T2.out.call hb)
        have RX := Lib.hid hr
        have HFX := Lib.hid hf
        have XX := Lib.hid (show ∀ y, ax = some y → x2.heap.size ≤ y.block from hx)
        have L3 := Lib.hid (show x2.heap.size ≤ x3.heap.size from hb.size)
        have NBs := Lib.hid (NB.out.below hb)
        refine hK.out _ _ (mrs_of T3.out) (fun hHeld3 => ?_)
        clear hK K hHeld2 hb hr hf hx
        try simp only [Act.put, List.getElem_toArray, List.getElem_cons_zero, List.getElem_cons_succ, List.setIfInBounds_toArray, List.set_cons_zero, List.set_cons_succ]
        refine wpAnyK_take (i := 4) (v := ?_) rfl (by kernel_rfl) (fun _ _ _ h => h) (Or.inl ⟨by rfl, ?_⟩) (by assumption) ?_
        rotate_left
        · (intro w hSw; (try dsimp only at hSw); go_simp; try with_reducible rfl)
        try simp only [Act.put, List.getElem_toArray, List.getElem_cons_zero, List.getElem_cons_succ, List.setIfInBounds_toArray, List.set_cons_zero, List.set_cons_succ]
        refine wpAnyK_take (i := 5) (v := ?_) rfl (by kernel_rfl) (fun _ _ _ h => h) (Or.inl ⟨by rfl, ?_⟩) (by assumption) ?_
        rotate_left
        · (intro w hSw; (try dsimp only at hSw); go_simp; try with_reducible rfl)
        try simp only [Act.put, List.getElem_toArray, List.getElem_cons_zero, List.getElem_cons_succ, List.setIfInBounds_toArray, List.set_cons_zero, List.set_cons_succ]
        refine wpAnyK_take (i := 6) (v := ?_) rfl (by kernel_rfl) (fun _ _ _ h => h) (Or.inl ⟨by rfl, ?_⟩) (by assumption) ?_
        rotate_left
        · (intro w hSw; (try dsimp only at hSw); go_simp; try with_reducible rfl)
        try simp only [Act.put, List.getElem_toArray, List.getElem_cons_zero, List.getElem_cons_succ, List.setIfInBounds_toArray, List.set_cons_zero, List.set_cons_succ]
        have h7 : w1.drew.heap.size = w1.heap.size := rfl
        have lf := Q1.out.q.f.box.lt
        have lg := Q1.out.q.g.box.lt
        have le1 := LE.out.1
        have le2 := LE.out.2
        have hFB : F < x1.heap.size := by omega
        have hGB : G < x1.heap.size := by omega
        have qx : ∀ y, ax = some y → 1 ≤ nx → y.block ≠ x1.heap.size := fun y hy hn => by have := XX.out y hy; omega
        have qf : ∀ y, af = some y → 1 ≤ nf → y.block ≠ x1.heap.size := fun y hy hn => by have := FF.out.1 y hy hn; omega
        have qg : ∀ y, ag = some y → 1 ≤ ng → y.block ≠ x1.heap.size := fun y hy hn => by have := FF.out.2 y hy hn; omega
        have lm := Q1.out.m.box.lt
        have hMB : M < x1.heap.size := by omega
        have qm : ∀ y, am = some y → 1 ≤ nm → y.block ≠ x1.heap.size := fun y hy hn => by have := FM.out y hy hn; omega
        have HP := Lib.hid (show MR W W.heap.size F G af nf capf zf pf jf ag ng capg zg pg jg ra rn rc M am nm capm zm pm jm (((x3.setCell ⟨x1.heap.size, 0, none⟩ (.slice ax nx capx)).setCell ⟨x1.heap.size, 1, none⟩ (.int .i64 px)).setCell ⟨x1.heap.size, 2, none⟩ (.int .i64 jx)) from ((T3.out.other hFB hGB hMB qf qg qm _ _).other hFB hGB hMB qf qg qm _ _).other hFB hGB hMB qf qg qm _ _)
        have HX8 := Lib.hid (show Bx (((x3.setCell ⟨x1.heap.size, 0, none⟩ (.slice ax nx capx)).setCell ⟨x1.heap.size, 1, none⟩ (.int .i64 px)).setCell ⟨x1.heap.size, 2, none⟩ (.int .i64 jx)) x1.heap.size ax nx capx px jx zx from ⟨NBs.out.set _ _ _, ((RX.out.store qx _ _).store qx _ _).store qx _ _⟩)
        have HGR := Lib.hid (grownM_of OD.out.1 OG.out.2 OD.out.2 HFX.out)
        obtain ⟨n0, n1, n2, n3, n4, n5⟩ := NBs.out
        clear qx qf qg le1 le2 lf lg h7 lm hMB qm
        refine wpAnyK_step (i := 8) rfl (by kernel_rfl) (fun K hK => ?_)
        go_simp
        refine hK.out _ _ (mrs_of HP.out) (fun hHeld9 => ?_)
        clear hK K hHeld3
        try simp only [Act.put, List.getElem_toArray, List.getElem_cons_zero, List.getElem_cons_succ, List.setIfInBounds_toArray, List.set_cons_zero, List.set_cons_succ]
        refine wpAnyK_done (by kernel_rfl) ?_
        simp only [List.drop_succ_cons, List.drop_zero]
        clear hHeld9
        go_wp2_with fail
        go_meet
        exact ⟨x1.heap.size, ax, nx, capx, zx, px, jx, rfl, rfl, HGR, HX8, HP⟩
    · go_simp
      obtain ⟨x1, hvx1⟩ : ∃ W', (w1.alloc (.cells #[.slice none 0 0, .int .i64 0, .int .i64 0] 24)).drew = W' := ⟨_, rfl⟩
      have hux1 : w1.drew.alloc (.cells #[.slice none 0 0, .int .i64 0, .int .i64 0] 24) = x1 := hvx1
      have hbx1 : Below w1.drew.heap.size w1.drew x1 := by rw [← hux1]; exact below_box _
      have NB := Lib.hid (show Cur3 x1 w1.heap.size (.slice none 0 0) (.int .i64 0) (.int .i64 0) by rw [← hux1]; exact Cur3.new w1.drew _ _ _ _)
      have T1 := Lib.hid (Q1.out.call hbx1)
      have LE := Lib.hid (show w1.heap.size ≤ w1.drew.heap.size ∧ w1.drew.heap.size < x1.heap.size from ⟨Nat.le_refl _, by rw [← hux1]; simp⟩)
      rw [hvx1]
      clear hux1 hvx1
      refine hK.out _ _ (mrs_of T1.out) (fun hHeld1 => ?_)
      clear hK K hHeld0 hbx1
      try simp only [Act.put, List.getElem_toArray, List.getElem_cons_zero, List.getElem_cons_succ, List.setIfInBounds_toArray, List.set_cons_zero, List.set_cons_succ]
      refine wpAnyK_step (i := 2) rfl (by kernel_rfl) (fun K hK => ?_)
      go_simp
      refine (curve_any 3 (by omega) (by omega) _ ra rn rc _ T1.out.q.src).mono ?_
      rintro e x2 ⟨ad, nd, capd, zd, pd, jd, rfl, hs, he, hr, ok, hx⟩
      have OD := Lib.hid (And.intro ok.good ((drawn_nice ok (by omega)).le (show (10000 : Int) ≤ 500000 by omega)))
      clear ok
      have T2 := Lib.hid (T1.out.read hs he)
      have RD := Lib.hid hr
      have L2 := Lib.hid (show x1.heap.size ≤ x2.heap.size from he.size)
      have NBr := Lib.hid (NB.out.apart he (by have := LE.out.1; have := Q1.out.q.f.box.lt; have := Q1.out.q.bF; show _ ≠ _; have h7 : w1.drew.heap.size = w1.heap.size := rfl; omega))
      refine hK.out _ _ (mrs_of T2.out) (fun hHeld2 => ?_)
      clear hK K hHeld1 hs he hr hx
      try simp only [Act.put, List.getElem_toArray, List.getElem_cons_zero, List.getElem_cons_succ, List.setIfInBounds_toArray, List.set_cons_zero, List.set_cons_succ]
      refine wpAnyK_step (i := 3) rfl (by kernel_rfl) (fun K hK => ?_)
      go_simp
      with_reducible refine (rsum_dayM ag ng capg zg pg jg OG.out.1 ad nd capd zd pd jd OD.out.1 OG.out.2 OD.out.2 _ T2.out.q.g.row RD.out).mono ?_
      rintro e x3 ⟨ax, nx, capx, zx, px, jx, rfl, hb, hr, hf, hx⟩
      have T3 := Lib.hid (T2.out.call hb)
      have RX := Lib.hid hr
      have HFX := Lib.hid hf
      have XX := Lib.hid (show ∀ y, ax = some y → x2.heap.size ≤ y.block from hx)
      have L3 := Lib.hid (show x2.heap.size ≤ x3.heap.size from hb.size)
      have NBrs := Lib.hid (NBr.out.below hb)
      refine hK.out _ _ (mrs_of T3.out) (fun hHeld3 => ?_)
      clear hK K hHeld2 hb hr hf hx
      try simp only [Act.put, List.getElem_toArray, List.getElem_cons_zero, List.getElem_cons_succ, List.setIfInBounds_toArray, List.set_cons_zero, List.set_cons_succ]
      refine wpAnyK_take (i := 4) (v := ?_) rfl (by kernel_rfl) (fun _ _ _ h => h) (Or.inl ⟨by rfl, ?_⟩) (by assumption) ?_
      rotate_left
      · (intro w hSw; (try dsimp only at hSw); go_simp; try with_reducible rfl)
      try simp only [Act.put, List.getElem_toArray, List.getElem_cons_zero, List.getElem_cons_succ, List.setIfInBounds_toArray, List.set_cons_zero, List.set_cons_succ]
      refine wpAnyK_take (i := 5) (v := ?_) rfl (by kernel_rfl) (fun _ _ _ h => h) (Or.inl ⟨by rfl, ?_⟩) (by assumption) ?_
      rotate_left
      · (intro w hSw; (try dsimp only at hSw); go_simp; try with_reducible rfl)
      try simp only [Act.put, List.getElem_toArray, List.getElem_cons_zero, List.getElem_cons_succ, List.setIfInBounds_toArray, List.set_cons_zero, List.set_cons_succ]
      refine wpAnyK_take (i := 6) (v := ?_) rfl (by kernel_rfl) (fun _ _ _ h => h) (Or.inl ⟨by rfl, ?_⟩) (by assumption) ?_
      rotate_left
      · (intro w hSw; (try dsimp only at hSw); go_simp; try with_reducible rfl)
      try simp only [Act.put, List.getElem_toArray, List.getElem_cons_zero, List.getElem_cons_succ, List.setIfInBounds_toArray, List.set_cons_zero, List.set_cons_succ]
      have h7 : w1.drew.heap.size = w1.heap.size := rfl
      have lf := Q1.out.q.f.box.lt
      have lg := Q1.out.q.g.box.lt
      have le1 := LE.out.1
      have le2 := LE.out.2
      have hFB : F < w1.heap.size := by omega
      have hGB : G < w1.heap.size := by omega
      have qx : ∀ y, ax = some y → 1 ≤ nx → y.block ≠ w1.heap.size := fun y hy hn => by have := XX.out y hy; have := L2.out; omega
      have qf : ∀ y, af = some y → 1 ≤ nf → y.block ≠ w1.heap.size := fun y hy hn => by have := FF.out.1 y hy hn; omega
      have qg : ∀ y, ag = some y → 1 ≤ ng → y.block ≠ w1.heap.size := fun y hy hn => by have := FF.out.2 y hy hn; omega
      have lm := Q1.out.m.box.lt
      have hMB : M < w1.heap.size := by omega
      have qm : ∀ y, am = some y → 1 ≤ nm → y.block ≠ w1.heap.size := fun y hy hn => by have := FM.out y hy hn; omega
      have HP := Lib.hid (show MR W W.heap.size F G af nf capf zf pf jf ag ng capg zg pg jg ra rn rc M am nm capm zm pm jm (((x3.setCell ⟨w1.heap.size, 0, none⟩ (.slice ax nx capx)).setCell ⟨w1.heap.size, 1, none⟩ (.int .i64 px)).setCell ⟨w1.heap.size, 2, none⟩ (.int .i64 jx)) from ((T3.out.other hFB hGB hMB qf qg qm _ _).other hFB hGB hMB qf qg qm _ _).other hFB hGB hMB qf qg qm _ _)
      have HX8 := Lib.hid (show Bx (((x3.setCell ⟨w1.heap.size, 0, none⟩ (.slice ax nx capx)).setCell ⟨w1.heap.size, 1, none⟩ (.int .i64 px)).setCell ⟨w1.heap.size, 2, none⟩ (.int .i64 jx)) w1.heap.size ax nx capx px jx zx from ⟨NBrs.out.set _ _ _, ((RX.out.store qx _ _).store qx _ _).store qx _ _⟩)
      have HGR := Lib.hid (grownM_of OD.out.1 OG.out.2 OD.out.2 HFX.out)
      obtain ⟨n0, n1, n2, n3, n4, n5⟩ := NBrs.out
      clear qx qf qg le1 le2 lf lg h7 lm hMB qm
      refine wpAnyK_step (i := 8) rfl (by kernel_rfl) (fun K hK => ?_)
      go_simp
      refine hK.out _ _ (mrs_of HP.out) (fun hHeld9 => ?_)
      clear hK K hHeld3
      try simp only [Act.put, List.getElem_toArray, List.getElem_cons_zero, List.getElem_cons_succ, List.setIfInBounds_toArray, List.set_cons_zero, List.set_cons_succ]
      refine wpAnyK_done (by kernel_rfl) ?_
      simp only [List.drop_succ_cons, List.drop_zero]
      clear hHeld9
      go_wp2_with fail
      go_meet
      exact ⟨w1.heap.size, ax, nx, capx, zx, px, jx, rfl, rfl, HGR, HX8, HP⟩
  case rest =>
  obtain ⟨T, aq, nq, capq, zq, pq, jq, rfl, rfl, HT, Xq, R1⟩ := hcut
  obtain ⟨w2, rfl⟩ : ∃ u : World, u = wc := ⟨_, rfl⟩
  clear Q1 R0 FM FF SW0
  have Xf := Lib.hid R1.out.q.f
  have Xg := Lib.hid R1.out.q.g
  have Xm := Lib.hid R1.out.m
  have HC := Lib.hid R1.out.q.below
  have HWF := Lib.hid (show W.heap.size < F from R1.out.q.bF)
  clear R1
  go_upto_region 7 with fail
  obtain ⟨c0, c1, c2, c3, c4, c5⟩ := Xf.out.box
  obtain ⟨d0, d1, d2, d3, d4, d5⟩ := Xg.out.box
  go_wp2_with fail
  clear c0 c1 c2 c3 c4 c5 d0 d1 d2 d3 d4 d5
  with_reducible refine (delay_day af nf capf zf pf jf OF.out.1 ag ng capg zg pg jg OG.out.1 OF.out.2.day OG.out.2.day _ Xf.out.row Xg.out.row).mono ?_
  rintro e v1 ⟨i1, m1, k1, rfl, hb, hD⟩
  have L1f := Lib.hid (show F < v1.heap.size ∧ ∀ y, af = some y → 1 ≤ nf → y.block < v1.heap.size from ⟨Nat.lt_of_lt_of_le Xf.out.box.lt hb.size, fun y h1 h2 => Nat.lt_of_lt_of_le (Xf.out.row.far y h1 h2) hb.size⟩)
  have L1g := Lib.hid (show G < v1.heap.size ∧ ∀ y, ag = some y → 1 ≤ ng → y.block < v1.heap.size from ⟨Nat.lt_of_lt_of_le Xg.out.box.lt hb.size, fun y h1 h2 => Nat.lt_of_lt_of_le (Xg.out.row.far y h1 h2) hb.size⟩)
  have L1m := Lib.hid (show M < v1.heap.size ∧ ∀ y, am = some y → 1 ≤ nm → y.block < v1.heap.size from ⟨Nat.lt_of_lt_of_le Xm.out.box.lt hb.size, fun y h1 h2 => Nat.lt_of_lt_of_le (Xm.out.row.far y h1 h2) hb.size⟩)
  have L1q := Lib.hid (show T < v1.heap.size ∧ ∀ y, aq = some y → 1 ≤ nq → y.block < v1.heap.size from ⟨Nat.lt_of_lt_of_le Xq.out.box.lt hb.size, fun y h1 h2 => Nat.lt_of_lt_of_le (Xq.out.row.far y h1 h2) hb.size⟩)
  obtain ⟨w1, hw⟩ : ∃ w', v1.alloc (.cells #[.bool i1, .int .i64 m1, .int .i64 (k1 : Nat)] 74) = w' := ⟨_, rfl⟩
  have hz : Below w2.heap.size w2 w1 := by rw [← hw]; exact hb.trans ((below_box _).mono hb.size)
  have Xf := Lib.hid (Xf.out.under hz)
  have Xg := Lib.hid (Xg.out.under hz)
  have Xm := Lib.hid (Xm.out.under hz)
  have Xq := Lib.hid (Xq.out.under hz)
  have X1 := Lib.hid (show Cur3 w1 v1.heap.size (.bool i1) (.int .i64 m1) (.int .i64 (k1 : Nat)) by rw [← hw]; exact Cur3.new v1 _ _ _ _)
  have D1 := Lib.hid hD
  clear hD
  have HE1 := Lib.hid (HC.out.trans (hz.mono HC.out.size))
  have HW := Lib.hid hw
  clear hz hw hb
  go_upto_region 8 with fail
  try rw [HW.out]
  obtain ⟨B1, hB⟩ : ∃ B, v1.heap.size = B := ⟨_, rfl⟩
  rw [hB] at X1 L1f L1g L1m L1q
  try rw [hB]
  clear hB HW
  have HL1 := Lib.hid (Nat.lt_trans HWF.out L1f.out.1)
  obtain ⟨c0, c1, c2, c3, c4, c5⟩ := Xm.out.box
  obtain ⟨d0, d1, d2, d3, d4, d5⟩ := Xg.out.box
  go_wp2_with fail
  clear c0 c1 c2 c3 c4 c5 d0 d1 d2 d3 d4 d5
  with_reducible refine (delay_day am nm capm zm pm jm HM.out.good ag ng capg zg pg jg OG.out.1 HM.out.day OG.out.2.day _ Xm.out.row Xg.out.row).mono ?_
  rintro e v2 ⟨i2, m2, k2, rfl, hb, hD⟩
  have L2f := Lib.hid (show F < v2.heap.size ∧ ∀ y, af = some y → 1 ≤ nf → y.block < v2.heap.size from ⟨Nat.lt_of_lt_of_le Xf.out.box.lt hb.size, fun y h1 h2 => Nat.lt_of_lt_of_le (Xf.out.row.far y h1 h2) hb.size⟩)
  have L2g := Lib.hid (show G < v2.heap.size ∧ ∀ y, ag = some y → 1 ≤ ng → y.block < v2.heap.size from ⟨Nat.lt_of_lt_of_le Xg.out.box.lt hb.size, fun y h1 h2 => Nat.lt_of_lt_of_le (Xg.out.row.far y h1 h2) hb.size⟩)
  have L2m := Lib.hid (show M < v2.heap.size ∧ ∀ y, am = some y → 1 ≤ nm → y.block < v2.heap.size from ⟨Nat.lt_of_lt_of_le Xm.out.box.lt hb.size, fun y h1 h2 => Nat.lt_of_lt_of_le (Xm.out.row.far y h1 h2) hb.size⟩)
  have L2q := Lib.hid (show T < v2.heap.size ∧ ∀ y, aq = some y → 1 ≤ nq → y.block < v2.heap.size from ⟨Nat.lt_of_lt_of_le Xq.out.box.lt hb.size, fun y h1 h2 => Nat.lt_of_lt_of_le (Xq.out.row.far y h1 h2) hb.size⟩)
  have L21 := Lib.hid (show B1 < v2.heap.size from Nat.lt_of_lt_of_le X1.out.lt hb.size)
  obtain ⟨w2, hw⟩ : ∃ w', v2.alloc (.cells #[.bool i2, .int .i64 m2, .int .i64 (k2 : Nat)] 74) = w' := ⟨_, rfl⟩
  have hz : Below w1.heap.size w1 w2 := by rw [← hw]; exact hb.trans ((below_box _).mono hb.size)
  have Xf := Lib.hid (Xf.out.under hz)
  have Xg := Lib.hid (Xg.out.under hz)
  have Xm := Lib.hid (Xm.out.under hz)
  have Xq := Lib.hid (Xq.out.under hz)
  have X1 := Lib.hid (X1.out.below hz)
  have X2 := Lib.hid (show Cur3 w2 v2.heap.size (.bool i2) (.int .i64 m2) (.int .i64 (k2 : Nat)) by rw [← hw]; exact Cur3.new v2 _ _ _ _)
  have D2 := Lib.hid hD
  clear hD
  have HE2 := Lib.hid (HE1.out.trans (hz.mono HE1.out.size))
  have HW := Lib.hid hw
  clear hz hw hb
  go_upto_region 9 with fail
  try rw [HW.out]
  obtain ⟨B2, hB⟩ : ∃ B, v2.heap.size = B := ⟨_, rfl⟩
  rw [hB] at X2 L2f L2g L2m L2q L21
  try rw [hB]
  clear hB HW
  have HL2 := Lib.hid (Nat.lt_trans HL1.out L21.out)
  obtain ⟨c0, c1, c2, c3, c4, c5⟩ := Xf.out.box
  obtain ⟨d0, d1, d2, d3, d4, d5⟩ := Xq.out.box
  go_wp2_with fail
  clear c0 c1 c2 c3 c4 c5 d0 d1 d2 d3 d4 d5
  with_reducible refine (delay_day af nf capf zf pf jf OF.out.1 aq nq capq zq pq jq HT.out.good OF.out.2.day HT.out.day _ Xf.out.row Xq.out.row).mono ?_
  rintro e v3 ⟨i3, m3, k3, rfl, hb, hD⟩
  have L3f := Lib.hid (show F < v3.heap.size ∧ ∀ y, af = some y → 1 ≤ nf → y.block < v3.heap.size from ⟨Nat.lt_of_lt_of_le Xf.out.box.lt hb.size, fun y h1 h2 => Nat.lt_of_lt_of_le (Xf.out.row.far y h1 h2) hb.size⟩)
  have L3g := Lib.hid (show G < v3.heap.size ∧ ∀ y, ag = some y → 1 ≤ ng → y.block < v3.heap.size from ⟨Nat.lt_of_lt_of_le Xg.out.box.lt hb.size, fun y h1 h2 => Nat.lt_of_lt_of_le (Xg.out.row.far y h1 h2) hb.size⟩)
  have L3m := Lib.hid (show M < v3.heap.size ∧ ∀ y, am = some y → 1 ≤ nm → y.block < v3.heap.size from ⟨Nat.lt_of_lt_of_le Xm.out.box.lt hb.size, fun y h1 h2 => Nat.lt_of_lt_of_le (Xm.out.row.far y h1 h2) hb.size⟩)
  have L3q := Lib.hid (show T < v3.heap.size ∧ ∀ y, aq = some y → 1 ≤ nq → y.block < v3.heap.size from ⟨Nat.lt_of_lt_of_le Xq.out.box.lt hb.size, fun y h1 h2 => Nat.lt_of_lt_of_le (Xq.out.row.far y h1 h2) hb.size⟩)
  have L31 := Lib.hid (show B1 < v3.heap.size from Nat.lt_of_lt_of_le X1.out.lt hb.size)
  have L32 := Lib.hid (show B2 < v3.heap.size from Nat.lt_of_lt_of_le X2.out.lt hb.size)
  obtain ⟨w3, hw⟩ : ∃ w', v3.alloc (.cells #[.bool i3, .int .i64 m3, .int .i64 (k3 : Nat)] 74) = w' := ⟨_, rfl⟩
  have hz : Below w2.heap.size w2 w3 := by rw [← hw]; exact hb.trans ((below_box _).mono hb.size)
  have Xf := Lib.hid (Xf.out.under hz)
  have Xg := Lib.hid (Xg.out.under hz)
  have Xm := Lib.hid (Xm.out.under hz)
  have Xq := Lib.hid (Xq.out.under hz)
  have X1 := Lib.hid (X1.out.below hz)
  have X2 := Lib.hid (X2.out.below hz)
  have X3 := Lib.hid (show Cur3 w3 v3.heap.size (.bool i3) (.int .i64 m3) (.int .i64 (k3 : Nat)) by rw [← hw]; exact Cur3.new v3 _ _ _ _)
  have D3 := Lib.hid hD
  clear hD
  have HE3 := Lib.hid (HE2.out.trans (hz.mono HE2.out.size))
  have HW := Lib.hid hw
  clear hz hw hb
  go_upto_region 10 with fail
  try rw [HW.out]
  obtain ⟨B3, hB⟩ : ∃ B, v3.heap.size = B := ⟨_, rfl⟩
  rw [hB] at X3 L3f L3g L3m L3q L31 L32
  try rw [hB]
  clear hB HW
  have HL3 := Lib.hid (Nat.lt_trans HL2.out L32.out)
  have LA := Lib.hid (show DLe i1 m1 i2 m2 by
    obtain ⟨n1, rfl, h1, _⟩ := D1.out
    obtain ⟨n2, rfl, h2, _⟩ := D2.out
    exact delay_mono (up_eC OG.out.1) HM.out.le (fun t => ole_refl _) h1 h2)
  have LB := Lib.hid (show DLe i3 m3 i1 m1 by
    obtain ⟨n1, rfl, h1, _⟩ := D1.out
    obtain ⟨n3, rfl, h3, _⟩ := D3.out
    exact delay_mono (up_eC HT.out.good) (fun t => ole_refl _) HT.out.le h3 h1)
  clear D1 D2 D3
  obtain ⟨c0, c1, c2, c3, c4, c5⟩ := X1.out
  obtain ⟨d0, d1, d2, d3, d4, d5⟩ := X2.out
  go_wp2_with fail
  clear c0 c1 c2 c3 c4 c5 d0 d1 d2 d3 d4 d5
  refine (less_ok (P := fun _ _ _ => True) (Q := fun _ _ _ => True) (k := k1) (l := k2) LA.out _).mono ?_
  rintro e w4 ⟨rfl, hb⟩
  have Xf := Lib.hid (Xf.out.under hb)
  have Xg := Lib.hid (Xg.out.under hb)
  have Xm := Lib.hid (Xm.out.under hb)
  have Xq := Lib.hid (Xq.out.under hb)
  have X1 := Lib.hid (X1.out.below hb)
  have X2 := Lib.hid (X2.out.below hb)
  have X3 := Lib.hid (X3.out.below hb)
  have HE4 := Lib.hid (HE3.out.trans (hb.mono HE3.out.size))
  clear hb
  obtain ⟨c0, c1, c2, c3, c4, c5⟩ := X3.out
  obtain ⟨d0, d1, d2, d3, d4, d5⟩ := X1.out
  go_wp2_with fail
  clear c0 c1 c2 c3 c4 c5 d0 d1 d2 d3 d4 d5
  refine (less_ok (P := fun _ _ _ => True) (Q := fun _ _ _ => True) (k := k3) (l := k1) LB.out _).mono ?_
  rintro e w5 ⟨rfl, hb⟩
  have Xf := Lib.hid (Xf.out.under hb)
  have Xg := Lib.hid (Xg.out.under hb)
  have Xm := Lib.hid (Xm.out.under hb)
  have Xq := Lib.hid (Xq.out.under hb)
  have X1 := Lib.hid (X1.out.below hb)
  have X2 := Lib.hid (X2.out.below hb)
  have X3 := Lib.hid (X3.out.below hb)
  have HE5 := Lib.hid (HE4.out.trans (hb.mono HE4.out.size))
  clear hb
  go_upto_region 12 with fail
  obtain ⟨c0, c1, c2, c3, c4, c5⟩ := Xf.out.box
  obtain ⟨d0, d1, d2, d3, d4, d5⟩ := Xg.out.box
  go_wp2_with fail
  clear c0 c1 c2 c3 c4 c5 d0 d1 d2 d3 d4 d5
  with_reducible refine (backlog_day af nf capf zf pf jf OF.out.1 ag ng capg zg pg jg OG.out.1 OF.out.2.day OG.out.2.day _ Xf.out.row Xg.out.row).mono ?_
  rintro e v6 ⟨i4, m4, k4, rfl, hb, hD⟩
  obtain ⟨w6, hw⟩ : ∃ w', ((((v6.setCell ⟨B1, 0, none⟩ (.bool i4)).setCell ⟨B1, 1, none⟩ (.int .i64 m4)).setCell ⟨B1, 2, none⟩ (.int .i64 (k4 : Nat)))) = w' := ⟨_, rfl⟩
  obtain ⟨s0, s1, s2, s3, s4, s5⟩ := X1.out.below hb
  have Xf := Lib.hid (show Bx w6 F af nf capf pf jf zf by rw [← hw]; exact (((Xf.out.under hb).away (Nat.ne_of_lt L1f.out.1) L1f.out.2 _ _).away (Nat.ne_of_lt L1f.out.1) L1f.out.2 _ _).away (Nat.ne_of_lt L1f.out.1) L1f.out.2 _ _)
  have Xg := Lib.hid (show Bx w6 G ag ng capg pg jg zg by rw [← hw]; exact (((Xg.out.under hb).away (Nat.ne_of_lt L1g.out.1) L1g.out.2 _ _).away (Nat.ne_of_lt L1g.out.1) L1g.out.2 _ _).away (Nat.ne_of_lt L1g.out.1) L1g.out.2 _ _)
  have Xm := Lib.hid (show Bx w6 M am nm capm pm jm zm by rw [← hw]; exact (((Xm.out.under hb).away (Nat.ne_of_lt L1m.out.1) L1m.out.2 _ _).away (Nat.ne_of_lt L1m.out.1) L1m.out.2 _ _).away (Nat.ne_of_lt L1m.out.1) L1m.out.2 _ _)
  have Xq := Lib.hid (show Bx w6 T aq nq capq pq jq zq by rw [← hw]; exact (((Xq.out.under hb).away (Nat.ne_of_lt L1q.out.1) L1q.out.2 _ _).away (Nat.ne_of_lt L1q.out.1) L1q.out.2 _ _).away (Nat.ne_of_lt L1q.out.1) L1q.out.2 _ _)
  have X2 := Lib.hid (show Cur3 w6 B2 (.bool i2) (.int .i64 m2) (.int .i64 (k2 : Nat)) by rw [← hw]; exact (((X2.out.below hb).other (Nat.ne_of_gt L21.out) _ _).other (Nat.ne_of_gt L21.out) _ _).other (Nat.ne_of_gt L21.out) _ _)
  have X3 := Lib.hid (show Cur3 w6 B3 (.bool i3) (.int .i64 m3) (.int .i64 (k3 : Nat)) by rw [← hw]; exact (((X3.out.below hb).other (Nat.ne_of_gt L31.out) _ _).other (Nat.ne_of_gt L31.out) _ _).other (Nat.ne_of_gt L31.out) _ _)
  have X1 := Lib.hid (show Cur3 w6 B1 (.bool i4) (.int .i64 m4) (.int .i64 (k4 : Nat)) by rw [← hw]; exact (X1.out.below hb).set _ _ _)
  have D4 := Lib.hid hD
  clear hD
  have HE6 := Lib.hid (show Below W.heap.size W w6 by rw [← hw]; exact below_set3 (HE5.out.trans (hb.mono HE5.out.size)) (Nat.le_of_lt HL1.out) _ _ _)
  have HW := Lib.hid hw
  clear hw hb
  go_upto_region 13 with fail
  try rw [HW.out]
  clear HW s0 s1 s2 s3 s4 s5
  obtain ⟨c0, c1, c2, c3, c4, c5⟩ := Xm.out.box
  obtain ⟨d0, d1, d2, d3, d4, d5⟩ := Xg.out.box
  go_wp2_with fail
  clear c0 c1 c2 c3 c4 c5 d0 d1 d2 d3 d4 d5
  with_reducible refine (backlog_day am nm capm zm pm jm HM.out.good ag ng capg zg pg jg OG.out.1 HM.out.day OG.out.2.day _ Xm.out.row Xg.out.row).mono ?_
  rintro e v7 ⟨i5, m5, k5, rfl, hb, hD⟩
  obtain ⟨w7, hw⟩ : ∃ w', ((((v7.setCell ⟨B2, 0, none⟩ (.bool i5)).setCell ⟨B2, 1, none⟩ (.int .i64 m5)).setCell ⟨B2, 2, none⟩ (.int .i64 (k5 : Nat)))) = w' := ⟨_, rfl⟩
  obtain ⟨s0, s1, s2, s3, s4, s5⟩ := X2.out.below hb
  have Xf := Lib.hid (show Bx w7 F af nf capf pf jf zf by rw [← hw]; exact (((Xf.out.under hb).away (Nat.ne_of_lt L2f.out.1) L2f.out.2 _ _).away (Nat.ne_of_lt L2f.out.1) L2f.out.2 _ _).away (Nat.ne_of_lt L2f.out.1) L2f.out.2 _ _)
  have Xg := Lib.hid (show Bx w7 G ag ng capg pg jg zg by rw [← hw]; exact (((Xg.out.under hb).away (Nat.ne_of_lt L2g.out.1) L2g.out.2 _ _).away (Nat.ne_of_lt L2g.out.1) L2g.out.2 _ _).away (Nat.ne_of_lt L2g.out.1) L2g.out.2 _ _)
  have Xm := Lib.hid (show Bx w7 M am nm capm pm jm zm by rw [← hw]; exact (((Xm.out.under hb).away (Nat.ne_of_lt L2m.out.1) L2m.out.2 _ _).away (Nat.ne_of_lt L2m.out.1) L2m.out.2 _ _).away (Nat.ne_of_lt L2m.out.1) L2m.out.2 _ _)
  have Xq := Lib.hid (show Bx w7 T aq nq capq pq jq zq by rw [← hw]; exact (((Xq.out.under hb).away (Nat.ne_of_lt L2q.out.1) L2q.out.2 _ _).away (Nat.ne_of_lt L2q.out.1) L2q.out.2 _ _).away (Nat.ne_of_lt L2q.out.1) L2q.out.2 _ _)
  have X1 := Lib.hid (show Cur3 w7 B1 (.bool i4) (.int .i64 m4) (.int .i64 (k4 : Nat)) by rw [← hw]; exact (((X1.out.below hb).other (Nat.ne_of_lt L21.out) _ _).other (Nat.ne_of_lt L21.out) _ _).other (Nat.ne_of_lt L21.out) _ _)
  have X3 := Lib.hid (show Cur3 w7 B3 (.bool i3) (.int .i64 m3) (.int .i64 (k3 : Nat)) by rw [← hw]; exact (((X3.out.below hb).other (Nat.ne_of_gt L32.out) _ _).other (Nat.ne_of_gt L32.out) _ _).other (Nat.ne_of_gt L32.out) _ _)
  have X2 := Lib.hid (show Cur3 w7 B2 (.bool i5) (.int .i64 m5) (.int .i64 (k5 : Nat)) by rw [← hw]; exact (X2.out.below hb).set _ _ _)
  have D5 := Lib.hid hD
  clear hD
  have HE7 := Lib.hid (show Below W.heap.size W w7 by rw [← hw]; exact below_set3 (HE6.out.trans (hb.mono HE6.out.size)) (Nat.le_of_lt HL2.out) _ _ _)
  have HW := Lib.hid hw
  clear hw hb
  go_upto_region 14 with fail
  try rw [HW.out]
  clear HW s0 s1 s2 s3 s4 s5
  obtain ⟨c0, c1, c2, c3, c4, c5⟩ := Xf.out.box
  obtain ⟨d0, d1, d2, d3, d4, d5⟩ := Xq.out.box
  go_wp2_with fail
  clear c0 c1 c2 c3 c4 c5 d0 d1 d2 d3 d4 d5
  with_reducible refine (backlog_day af nf capf zf pf jf OF.out.1 aq nq capq zq pq jq HT.out.good OF.out.2.day HT.out.day _ Xf.out.row Xq.out.row).mono ?_
  rintro e v8 ⟨i6, m6, k6, rfl, hb, hD⟩
  obtain ⟨w8, hw⟩ : ∃ w', ((((v8.setCell ⟨B3, 0, none⟩ (.bool i6)).setCell ⟨B3, 1, none⟩ (.int .i64 m6)).setCell ⟨B3, 2, none⟩ (.int .i64 (k6 : Nat)))) = w' := ⟨_, rfl⟩
  obtain ⟨s0, s1, s2, s3, s4, s5⟩ := X3.out.below hb
  have Xf := Lib.hid (show Bx w8 F af nf capf pf jf zf by rw [← hw]; exact (((Xf.out.under hb).away (Nat.ne_of_lt L3f.out.1) L3f.out.2 _ _).away (Nat.ne_of_lt L3f.out.1) L3f.out.2 _ _).away (Nat.ne_of_lt L3f.out.1) L3f.out.2 _ _)
  have Xg := Lib.hid (show Bx w8 G ag ng capg pg jg zg by rw [← hw]; exact (((Xg.out.under hb).away (Nat.ne_of_lt L3g.out.1) L3g.out.2 _ _).away (Nat.ne_of_lt L3g.out.1) L3g.out.2 _ _).away (Nat.ne_of_lt L3g.out.1) L3g.out.2 _ _)
  have Xm := Lib.hid (show Bx w8 M am nm capm pm jm zm by rw [← hw]; exact (((Xm.out.under hb).away (Nat.ne_of_lt L3m.out.1) L3m.out.2 _ _).away (Nat.ne_of_lt L3m.out.1) L3m.out.2 _ _).away (Nat.ne_of_lt L3m.out.1) L3m.out.2 _ _)
  have Xq := Lib.hid (show Bx w8 T aq nq capq pq jq zq by rw [← hw]; exact (((Xq.out.under hb).away (Nat.ne_of_lt L3q.out.1) L3q.out.2 _ _).away (Nat.ne_of_lt L3q.out.1) L3q.out.2 _ _).away (Nat.ne_of_lt L3q.out.1) L3q.out.2 _ _)
  have X1 := Lib.hid (show Cur3 w8 B1 (.bool i4) (.int .i64 m4) (.int .i64 (k4 : Nat)) by rw [← hw]; exact (((X1.out.below hb).other (Nat.ne_of_lt L31.out) _ _).other (Nat.ne_of_lt L31.out) _ _).other (Nat.ne_of_lt L31.out) _ _)
  have X2 := Lib.hid (show Cur3 w8 B2 (.bool i5) (.int .i64 m5) (.int .i64 (k5 : Nat)) by rw [← hw]; exact (((X2.out.below hb).other (Nat.ne_of_lt L32.out) _ _).other (Nat.ne_of_lt L32.out) _ _).other (Nat.ne_of_lt L32.out) _ _)
  have X3 := Lib.hid (show Cur3 w8 B3 (.bool i6) (.int .i64 m6) (.int .i64 (k6 : Nat)) by rw [← hw]; exact (X3.out.below hb).set _ _ _)
  have D6 := Lib.hid hD
  clear hD
  have HE8 := Lib.hid (show Below W.heap.size W w8 by rw [← hw]; exact below_set3 (HE7.out.trans (hb.mono HE7.out.size)) (Nat.le_of_lt HL3.out) _ _ _)
  have HW := Lib.hid hw
  clear hw hb
  go_upto_region 15 with fail
  try rw [HW.out]
  clear HW s0 s1 s2 s3 s4 s5
  have LC := Lib.hid (show DLe i4 m4 i5 m5 from back_mono HM.out.le (fun t => ole_refl _) D4.out.1 D5.out.1)
  have LD := Lib.hid (show DLe i6 m6 i4 m4 from back_mono (fun t => ole_refl _) HT.out.le D6.out.1 D4.out.1)
  clear D4 D5 D6
  obtain ⟨c0, c1, c2, c3, c4, c5⟩ := X1.out
  obtain ⟨d0, d1, d2, d3, d4, d5⟩ := X2.out
  go_wp2_with fail
  clear c0 c1 c2 c3 c4 c5 d0 d1 d2 d3 d4 d5
  refine (less_ok (P := fun _ _ _ => True) (Q := fun _ _ _ => True) (k := k4) (l := k5) LC.out _).mono ?_
  rintro e w9 ⟨rfl, hb⟩
  have Xf := Lib.hid (Xf.out.under hb)
  have Xg := Lib.hid (Xg.out.under hb)
  have Xm := Lib.hid (Xm.out.under hb)
  have Xq := Lib.hid (Xq.out.under hb)
  have X1 := Lib.hid (X1.out.below hb)
  have X2 := Lib.hid (X2.out.below hb)
  have X3 := Lib.hid (X3.out.below hb)
  have HE9 := Lib.hid (HE8.out.trans (hb.mono HE8.out.size))
  clear hb
  obtain ⟨c0, c1, c2, c3, c4, c5⟩ := X3.out
  obtain ⟨d0, d1, d2, d3, d4, d5⟩ := X1.out
  go_wp2_with fail
  clear c0 c1 c2 c3 c4 c5 d0 d1 d2 d3 d4 d5
  refine (less_ok (P := fun _ _ _ => True) (Q := fun _ _ _ => True) (k := k6) (l := k4) LD.out _).mono ?_
  rintro e w10 ⟨rfl, hb⟩
  have Xf := Lib.hid (Xf.out.under hb)
  have Xg := Lib.hid (Xg.out.under hb)
  have Xm := Lib.hid (Xm.out.under hb)
  have Xq := Lib.hid (Xq.out.under hb)
  have X1 := Lib.hid (X1.out.below hb)
  have X2 := Lib.hid (X2.out.below hb)
  have X3 := Lib.hid (X3.out.below hb)
  have HE10 := Lib.hid (HE9.out.trans (hb.mono HE9.out.size))
  clear hb
  go_wp2_with fail
  refine (awake10 _).mono ?_
  rintro e y9 ⟨rfl, hb⟩
  have HBZ := Lib.hid (HE10.out.trans (hb.mono HE10.out.size))
  clear hb
  go_wp2_with fail
  go_ret
  exact ⟨rfl, HBZ.out⟩
end Go.Proofs.Ytjjaaknjdmijbaa
