/- The walk of DeviationShifts. By the verifier's side. -/
import Derived.Test.YtjjaaknjdmijbaaQbDevHDevI
import Derived.Test.YtjjaaknjdmijbaaQbConER
namespace Go.Proofs.Ytjjaaknjdmijbaa
open Go.RowKit
set_option linter.unusedSimpArgs false
set_option linter.unusedVariables false

theorem at_ole {zs ys : List Int} {p q : Nat} {inc jnc : Int} (g : Good zs p inc) (k : Good ys q jnc) {s t : Nat} (hs : s ≤ 1048576) (ht : t ≤ 1048576) : ole (eC zs p inc s) (eC ys q jnc t) ↔ atC zs p inc s ≤ atC ys q jnc t := by
  rw [enc_lt (fun y hy => by have := eC_bd k hy; unfold infV; omega) (fun x hx => by have := eC_bd g hx; unfold infV; omega), enc_eC, enc_eC]

set_option maxRecDepth 100000 in
set_option maxHeartbeats 6400000 in
theorem deviationShifts_walk (W : World) (a : Option Addr) (n cap : Nat) (hrow : RowAt W a n cap) :
    Calls Try.prog 9 #[.slice a n cap] W fun e w' => e = .returned (.bool true) ∧ Below W.heap.size W w' := by
  have HR := Lib.hid hrow
  clear hrow
  go_enter Try.func9, Try.ntmps9
  go_wp2_with fail
  refine (new_any a n cap _ HR.out).mono ?_
  rintro e u1 ⟨rfl, hb1, hz1, ra, rn, rc, hs1⟩
  have HB1 := Lib.hid hb1
  have HS1 := Lib.hid hs1
  have Z1 := Lib.hid hz1
  clear hb1 hz1 hs1
  go_wp2_with fail
  refine (curve_any 7 (by omega) (by omega) _ ra rn rc _ HS1.out).mono ?_
  rintro e u2 ⟨af, nf, capf, zf, pf, jf, rfl, hs2, he2, hr2, ok2, hx2⟩
  have OF := Lib.hid (And.intro ok2.good (day_drawn ok2))
  have HS2 := Lib.hid hs2
  have R2 := Lib.hid hr2
  have X2 := Lib.hid (show ∀ x, af = some x → ¬ x.block = W.heap.size from fun x hx => by have := hx2 x hx; have := Z1.out; omega)
  have HB2 := Lib.hid (HB1.out.trans (he2.below (Nat.le_refl _) HB1.out.size))
  clear hs2 he2 hr2 ok2 hx2
  go_wp2_with fail
  refine (curve_any 7 (by omega) (by omega) _ ra rn rc _ HS2.out).mono ?_
  rintro e u3 ⟨ag, ng, capg, zg, pg, jg, rfl, hs3, he3, hr3, ok3, hx3⟩
  have OG := Lib.hid (And.intro ok3.good (day_drawn ok3))
  have HS3 := Lib.hid hs3
  have R3 := Lib.hid (And.intro (R2.out.apart he3 X2.out) hr3)
  have h9 : W.heap.size < u2.heap.size := lt_of_cell (src_cell HS2.out)
  have X3 := Lib.hid (show ∀ x, ag = some x → ¬ x.block = W.heap.size from fun x hx => by have := hx3 x hx; omega)
  have HB3 := Lib.hid (HB2.out.trans (he3.below (Nat.le_refl _) HB2.out.size))
  clear hs3 he3 hr3 ok3 hx3 h9
  obtain ⟨w0, hw⟩ : ∃ w', (u3.alloc (.cells #[.slice af nf capf, .int .i64 pf, .int .i64 jf] 24)).alloc (.cells #[.slice ag ng capg, .int .i64 pg, .int .i64 jg] 24) = w' := ⟨_, rfl⟩
  have hz : Below u3.heap.size u3 w0 := by rw [← hw]; exact (below_box _).alloc (by simp) _
  have Q0 := Lib.hid (show MQ W W.heap.size u3.heap.size (u3.heap.size + 1) af nf capf zf pf jf ag ng capg zg pg jg ra rn rc w0 from ⟨by rw [← hw]; exact (Bx.new R3.out.1).under (below_box _), by
    rw [← hw]
    have := Bx.new (p := pg) (inc := jg) (R3.out.2.alloc (.cells #[.slice af nf capf, .int .i64 pf, .int .i64 jf] 24))
    rwa [show (u3.alloc (.cells #[.slice af nf capf, .int .i64 pf, .int .i64 jf] 24)).heap.size = u3.heap.size + 1 by simp] at this, src_under HS3.out hz, HB3.out.trans (hz.mono HB3.out.size), lt_of_cell (src_cell HS3.out), Nat.lt_succ_of_lt (lt_of_cell (src_cell HS3.out)), Nat.le_refl _, X2.out, X3.out, src_far HS3.out⟩)
  have SW0 := Lib.hid (show u3.heap.size + 2 = w0.heap.size by rw [← hw]; simp)
  have FF := Lib.hid (And.intro R3.out.1.far R3.out.2.far)
  have HW0 := Lib.hid hw
  clear hw hz HB1 HB2 HB3 HS1 HS2 HS3 R2 R3 X2 X3
  go_upto_region 3 with fail
  try rw [HW0.out]
  clear HW0
  obtain ⟨F, hF⟩ : ∃ F, u3.heap.size = F := ⟨_, rfl⟩
  rw [hF] at Q0 SW0 FF
  try rw [hF]
  clear hF
  obtain ⟨G, hG⟩ : ∃ G, F + 1 = G := ⟨_, rfl⟩
  rw [hG] at Q0
  try rw [hG]
  have HFG := Lib.hid hG
  clear hG
  obtain ⟨c0, c1, c2, c3, c4, c5⟩ := Q0.out.f.box
  obtain ⟨d0, d1, d2, d3, d4, d5⟩ := Q0.out.g.box
  go_wp2_with fail
  clear c0 c1 c2 c3 c4 c5 d0 d1 d2 d3 d4 d5
  with_reducible refine (delay_day af nf capf zf pf jf OF.out.1 ag ng capg zg pg jg OG.out.1 OF.out.2 OG.out.2 _ Q0.out.f.row Q0.out.g.row).mono ?_
  rintro e v1 ⟨i1, m1, k1, rfl, hb, hD⟩
  obtain ⟨w1, hw⟩ : ∃ w', v1.alloc (.cells #[.bool i1, .int .i64 m1, .int .i64 (k1 : Nat)] 74) = w' := ⟨_, rfl⟩
  have hz : Below w0.heap.size w0 w1 := by rw [← hw]; exact hb.trans ((below_box _).mono hb.size)
  have hbD : W.heap.size < v1.heap.size := by have h1 := Q0.out.bF; have h2 := Q0.out.f.box.lt; have h3 := hb.size; omega
  have Q1 := Lib.hid (show MS W W.heap.size F G v1.heap.size af nf capf zf pf jf ag ng capg zg pg jg i1 m1 k1 ra rn rc w1.drew from MS.call (u := w1) ⟨Q0.out.call hz, by rw [← hw]; exact Cur3.new v1 _ _ _ _, hbD⟩ (Below.refl _ _).drew)
  have DD := Lib.hid hD
  have HM1 := Lib.hid (show 0 ≤ m1 ∧ m1 ≤ 144115188075855872 by obtain ⟨n1, hn1, _, _, h⟩ := hD; omega)
  have SW1 := Lib.hid (show F + 2 ≤ v1.heap.size ∧ v1.heap.size < w1.heap.size from ⟨by have := SW0.out; have := hb.size; omega, by rw [← hw]; simp⟩)
  have HW := Lib.hid hw
  clear hw hz hb hD hbD Q0 SW0
  go_upto_region 6 with fail
  try rw [HW.out]
  obtain ⟨D, hD⟩ : ∃ D, v1.heap.size = D := ⟨_, rfl⟩
  rw [hD] at Q1 SW1
  try rw [hD]
  clear hD HW
  go_cut [8, 9] (fun s8 s9 wx => ∃ (M : Nat) (al : Option Addr) (nl capl : Nat) (zl : List Int) (pl jl cl : Int) (d : Nat), s8 = .pointer (some ⟨M, 0, none⟩) ∧ s9 = .int .i64 cl ∧ Hid (m1 ≤ 300 → m1 ≤ (d : Int)) ∧ Hid ((cl = 0 ∧ ∃ q : Nat, pl = q ∧ EForm zl q jl (eLater d zf pf jf)) ∨ cl = 3) ∧ Hid (Cur3 wx M (.slice al nl capl) (.int .i64 pl) (.int .i64 jl) ∧ RowZ wx al nl capl zl) ∧ Hid (MS W W.heap.size F G D af nf capf zf pf jf ag ng capg zg pg jg i1 m1 k1 ra rn rc wx))
  case first =>
    obtain ⟨hm0, hm9⟩ := HM1.out
    by_cases h3 : (300 : Int) < m1
    · obtain ⟨mm, hmm⟩ : ∃ mm : Int, mm = 300 := ⟨_, rfl⟩
      have HMM := Lib.hid (show 0 ≤ mm ∧ mm ≤ 300 ∧ (m1 ≤ 300 → m1 ≤ mm) by omega)
      subst hmm
      refine wp_region_keeps (fun u => MSS W W.heap.size F G D af nf capf zf pf jf ag ng capg zg pg jg i1 m1 k1 ra rn rc u) 13 1 (by kernel_rfl) (by kernel_rfl) (mss_of Q1.out) (fun hHeld0 => ?_)
      refine wpAnyK_take (i := 0) (v := ?_) rfl (by kernel_rfl) (fun _ _ _ h => h) (Or.inl ⟨by rfl, ?_⟩) (by assumption) ?_
      rotate_left
      · (intro w hSw; (try dsimp only at hSw); go_simp; try with_reducible rfl)
      try simp only [Act.put, List.getElem_toArray, List.getElem_cons_zero, List.getElem_cons_succ, List.setIfInBounds_toArray, List.set_cons_zero, List.set_cons_succ]
      refine wpAnyK_take (i := 1) (v := ?_) rfl (by kernel_rfl) (fun _ _ _ h => h) (Or.inl ⟨by rfl, ?_⟩) (by assumption) ?_
      rotate_left
      · (intro w hSw; (try dsimp only at hSw); go_simp; try with_reducible rfl)
      try simp only [Act.put, List.getElem_toArray, List.getElem_cons_zero, List.getElem_cons_succ, List.setIfInBounds_toArray, List.set_cons_zero, List.set_cons_succ]
      refine wpAnyK_take (i := 2) (v := ?_) rfl (by kernel_rfl) (fun _ _ _ h => h) (Or.inl ⟨by rfl, ?_⟩) (by assumption) ?_
      rotate_left
      · (intro w hSw; (try dsimp only at hSw); go_simp; try with_reducible rfl)
      try simp only [Act.put, List.getElem_toArray, List.getElem_cons_zero, List.getElem_cons_succ, List.setIfInBounds_toArray, List.set_cons_zero, List.set_cons_succ]
      refine wpAnyK_take (i := 3) (v := ?_) rfl (by kernel_rfl) (fun _ _ _ h => h) (Or.inl ⟨by rfl, ?_⟩) (by assumption) ?_
      rotate_left
      · (intro w hSw; (try dsimp only at hSw); go_simp; try with_reducible rfl)
      try simp only [Act.put, List.getElem_toArray, List.getElem_cons_zero, List.getElem_cons_succ, List.setIfInBounds_toArray, List.set_cons_zero, List.set_cons_succ]
      refine wpAnyK_take (i := 4) (v := ?_) rfl (by kernel_rfl) (fun _ _ _ h => h) (Or.inl ⟨by rfl, ?_⟩) (by assumption) ?_
      rotate_left
      · (intro w hSw; (try dsimp only at hSw); go_simp; try with_reducible rfl)
      try simp only [Act.put, List.getElem_toArray, List.getElem_cons_zero, List.getElem_cons_succ, List.setIfInBounds_toArray, List.set_cons_zero, List.set_cons_succ]
      refine wpAnyK_two (i := 5) (j := 11) rfl rfl (by kernel_rfl) (fun K hK => ?_) (fun K hK => ?_)
      · go_simp
        refine (n_any 20 (by omega) (by omega) _ ra rn rc _ Q1.out.q.src).mono ?_
        rintro e x1 ⟨r, ⟨r0, r1⟩, rfl, hs, he'⟩
        have he := he'.apart
        obtain ⟨d, hd⟩ : ∃ d : Nat, (300 : Int) + r = (d : Int) := ⟨((300 : Int) + r).toNat, by have := HMM.out; omega⟩
        have hdw : IntKind.i64.wrap (d : Int) = (d : Int) := IntWalk.i64_in _ ⟨by omega, by have := HMM.out; omega⟩
        have HDD := Lib.hid (show (m1 ≤ 300 → m1 ≤ (d : Int)) ∧ d ≤ 400 by have := HMM.out; omega)
        clear he' r0 r1
        have T1 := Lib.hid (Q1.out.read hs he)
        have L2 := Lib.hid (show w1.drew.heap.size ≤ x1.heap.size from he.size)
        refine hK.out _ _ (mss_of T1.out) (fun hHeld1 => ?_)
        clear hK K hHeld0 hs he
        try simp only [Act.put, List.getElem_toArray, List.getElem_cons_zero, List.getElem_cons_succ, List.setIfInBounds_toArray, List.set_cons_zero, List.set_cons_succ]
        refine wpAnyK_take (i := 6) (v := ?_) rfl (by kernel_rfl) (fun _ _ _ h => h) (Or.inl ⟨by rfl, ?_⟩) (by assumption) ?_
        rotate_left
        · (intro w hSw; (try dsimp only at hSw); go_simp; try with_reducible rfl)
        try simp only [Act.put, List.getElem_toArray, List.getElem_cons_zero, List.getElem_cons_succ, List.setIfInBounds_toArray, List.set_cons_zero, List.set_cons_succ]
        refine wpAnyK_two (i := 7) (j := 11) rfl rfl (by kernel_rfl) (fun K hK => ?_) (fun K hK => ?_)
        · go_simp
          with_reducible refine ((rlater_ok af nf capf zf pf jf OF.out.1 (d : Int) d rfl HDD.out.2 _ T1.out.q.f.row).mono fun _ _ h => h.z4).mono ?_
          rintro e x2 ⟨ax, nx, capx, zx, px, jx, cx, rfl, hb, hr, hm, hx⟩
          have T2 := Lib.hid (T1.out.call hb)
          have RX := Lib.hid hr
          have MX := Lib.hid hm
          have XX := Lib.hid (show ∀ y, ax = some y → x1.heap.size ≤ y.block from hx)
          have L3 := Lib.hid (show x1.heap.size ≤ x2.heap.size from hb.size)
          refine hK.out _ _ (mss_of T2.out) (fun hHeld2 => ?_)
          clear hK K hHeld1 hb hr hm hx
          try simp only [Act.put, List.getElem_toArray, List.getElem_cons_zero, List.getElem_cons_succ, List.setIfInBounds_toArray, List.set_cons_zero, List.set_cons_succ]
          refine wpAnyK_take (i := 8) (v := ?_) rfl (by kernel_rfl) (fun _ _ _ h => h) (Or.inl ⟨by rfl, ?_⟩) (by assumption) ?_
          rotate_left
          · (intro w hSw; (try dsimp only at hSw); go_simp; try with_reducible rfl)
          try simp only [Act.put, List.getElem_toArray, List.getElem_cons_zero, List.getElem_cons_succ, List.setIfInBounds_toArray, List.set_cons_zero, List.set_cons_succ]
          refine wpAnyK_take (i := 9) (v := ?_) rfl (by kernel_rfl) (fun _ _ _ h => h) (Or.inl ⟨by rfl, ?_⟩) (by assumption) ?_
          rotate_left
          · (intro w hSw; (try dsimp only at hSw); go_simp; try with_reducible rfl)
          try simp only [Act.put, List.getElem_toArray, List.getElem_cons_zero, List.getElem_cons_succ, List.setIfInBounds_toArray, List.set_cons_zero, List.set_cons_succ]
          refine wpAnyK_take (i := 10) (v := ?_) rfl (by kernel_rfl) (fun _ _ _ h => h) (Or.inl ⟨by rfl, ?_⟩) (by assumption) ?_
          rotate_left
          · (intro w hSw; (try dsimp only at hSw); go_simp; try with_reducible rfl)
          try simp only [Act.put, List.getElem_toArray, List.getElem_cons_zero, List.getElem_cons_succ, List.setIfInBounds_toArray, List.set_cons_zero, List.set_cons_succ]
          refine wpAnyK_step (i := 11) rfl (by kernel_rfl) (fun K hK => ?_)
          go_simp
          obtain ⟨x3, hux3⟩ : ∃ W', x2.alloc (.cells #[.slice none 0 0, .int .i64 0, .int .i64 0] 24) = W' := ⟨_, rfl⟩
          have hvx3 := hux3
          have hbx3 : Below x2.heap.size x2 x3 := by rw [← hux3]; exact below_box _
          have NB := Lib.hid (show Cur3 x3 x2.heap.size (.slice none 0 0) (.int .i64 0) (.int .i64 0) by rw [← hux3]; exact Cur3.new x2 _ _ _ _)
          have T3 := Lib.hid (T2.out.call hbx3)
          have RXb := Lib.hid (RX.out.under hbx3)
          have LE := Lib.hid (show w1.heap.size ≤ x2.heap.size ∧ x2.heap.size < x3.heap.size from ⟨Nat.le_trans L2.out L3.out, by rw [← hux3]; simp⟩)
          rw [hvx3]
          clear hux3 hvx3
          refine hK.out _ _ (mss_of T3.out) (fun hHeld3 => ?_)
          clear hK K hHeld2 hbx3
          try simp only [Act.put, List.getElem_toArray, List.getElem_cons_zero, List.getElem_cons_succ, List.setIfInBounds_toArray, List.set_cons_zero, List.set_cons_succ]
          have h7 : w1.drew.heap.size = w1.heap.size := rfl
          have lf := Q1.out.q.f.box.lt
          have lg := Q1.out.q.g.box.lt
          have ld := Q1.out.d.lt
          have le1 := LE.out.1
          have le2 := LE.out.2
          have sw := SW1.out
          have hFB : F < x2.heap.size := by omega
          have hGB : G < x2.heap.size := by omega
          have hDB : D < x2.heap.size := by omega
          have qx : ∀ y, ax = some y → 1 ≤ nx → y.block ≠ x2.heap.size := fun y hy hn => by have := RX.out.far y hy hn; omega
          have qf : ∀ y, af = some y → 1 ≤ nf → y.block ≠ x2.heap.size := fun y hy hn => by have := FF.out.1 y hy hn; omega
          have qg : ∀ y, ag = some y → 1 ≤ ng → y.block ≠ x2.heap.size := fun y hy hn => by have := FF.out.2 y hy hn; omega
          have HP := Lib.hid (show MS W W.heap.size F G D af nf capf zf pf jf ag ng capg zg pg jg i1 m1 k1 ra rn rc (((x3.setCell ⟨x2.heap.size, 0, none⟩ (.slice ax nx capx)).setCell ⟨x2.heap.size, 1, none⟩ (.int .i64 px)).setCell ⟨x2.heap.size, 2, none⟩ (.int .i64 jx)) from ((T3.out.other hFB hGB hDB qf qg _ _).other hFB hGB hDB qf qg _ _).other hFB hGB hDB qf qg _ _)
          have HX8 := Lib.hid (show Cur3 (((x3.setCell ⟨x2.heap.size, 0, none⟩ (.slice ax nx capx)).setCell ⟨x2.heap.size, 1, none⟩ (.int .i64 px)).setCell ⟨x2.heap.size, 2, none⟩ (.int .i64 jx)) x2.heap.size (.slice ax nx capx) (.int .i64 px) (.int .i64 jx) ∧ RowZ (((x3.setCell ⟨x2.heap.size, 0, none⟩ (.slice ax nx capx)).setCell ⟨x2.heap.size, 1, none⟩ (.int .i64 px)).setCell ⟨x2.heap.size, 2, none⟩ (.int .i64 jx)) ax nx capx zx from ⟨NB.out.set _ _ _, ((RXb.out.store qx _ _).store qx _ _).store qx _ _⟩)
          have HDE := Lib.hid HDD.out.1
          obtain ⟨n0, n1, n2, n3, n4, n5⟩ := NB.out
          clear qx qf qg le1 le2 lf lg ld sw h7
          refine wpAnyK_step (i := 12) rfl (by kernel_rfl) (fun K hK => ?_)
          go_simp
          refine hK.out _ _ (mss_of HP.out) (fun hHeld9 => ?_)
          clear hK K hHeld3
          try simp only [Act.put, List.getElem_toArray, List.getElem_cons_zero, List.getElem_cons_succ, List.setIfInBounds_toArray, List.set_cons_zero, List.set_cons_succ]
          refine wpAnyK_done (by kernel_rfl) ?_
          simp only [List.drop_succ_cons, List.drop_zero]
          clear hHeld9
          go_wp2_with fail
          go_meet
          exact ⟨x2.heap.size, ax, nx, capx, zx, px, jx, cx, d, rfl, rfl, HDE, MX, HX8, HP⟩
        · go_simp
          obtain ⟨x2, hux2⟩ : ∃ W', x1.alloc (.cells #[.slice none 0 0, .int .i64 0, .int .i64 0] 24) = W' := ⟨_, rfl⟩
          have hvx2 := hux2
          have hbx2 : Below x1.heap.size x1 x2 := by rw [← hux2]; exact below_box _
          have NB := Lib.hid (show Cur3 x2 x1.heap.size (.slice none 0 0) (.int .i64 0) (.int .i64 0) by rw [← hux2]; exact Cur3.new x1 _ _ _ _)
          have T2 := Lib.hid (T1.out.call hbx2)
          have LE := Lib.hid (show w1.heap.size ≤ x1.heap.size ∧ x1.heap.size < x2.heap.size from ⟨L2.out, by rw [← hux2]; simp⟩)
          rw [hvx2]
          clear hux2 hvx2
          refine hK.out _ _ (mss_of T2.out) (fun hHeld2 => ?_)
          clear hK K hHeld1 hbx2
          try simp only [Act.put, List.getElem_toArray, List.getElem_cons_zero, List.getElem_cons_succ, List.setIfInBounds_toArray, List.set_cons_zero, List.set_cons_succ]
          refine wpAnyK_step (i := 7) rfl (by kernel_rfl) (fun K hK => ?_)
          go_simp
          with_reducible refine ((rlater_ok af nf capf zf pf jf OF.out.1 (d : Int) d rfl HDD.out.2 _ T2.out.q.f.row).mono fun _ _ h => h.z4).mono ?_
          rintro e x3 ⟨ax, nx, capx, zx, px, jx, cx, rfl, hb, hr, hm, hx⟩
          have T3 := Lib.hid (T2.out.call hb)
          have RX := Lib.hid hr
          have MX := Lib.hid hm
          have XX := Lib.hid (show ∀ y, ax = some y → x2.heap.size ≤ y.block from hx)
          have L3 := Lib.hid (show x2.heap.size ≤ x3.heap.size from hb.size)
          have NBs := Lib.hid (NB.out.below hb)
          refine hK.out _ _ (mss_of T3.out) (fun hHeld3 => ?_)
          clear hK K hHeld2 hb hr hm hx
          try simp only [Act.put, List.getElem_toArray, List.getElem_cons_zero, List.getElem_cons_succ, List.setIfInBounds_toArray, List.set_cons_zero, List.set_cons_succ]
          refine wpAnyK_take (i := 8) (v := ?_) rfl (by kernel_rfl) (fun _ _ _ h => h) (Or.inl ⟨by rfl, ?_⟩) (by assumption) ?_
          rotate_left
          · (intro w hSw; (try dsimp only at hSw); go_simp; try with_reducible rfl)
          try simp only [Act.put, List.getElem_toArray, List.getElem_cons_zero, List.getElem_cons_succ, List.setIfInBounds_toArray, List.set_cons_zero, List.set_cons_succ]
          refine wpAnyK_take (i := 9) (v := ?_) rfl (by kernel_rfl) (fun _ _ _ h => h) (Or.inl ⟨by rfl, ?_⟩) (by assumption) ?_
          rotate_left
          · (intro w hSw; (try dsimp only at hSw); go_simp; try with_reducible rfl)
          try simp only [Act.put, List.getElem_toArray, List.getElem_cons_zero, List.getElem_cons_succ, List.setIfInBounds_toArray, List.set_cons_zero, List.set_cons_succ]
          refine wpAnyK_take (i := 10) (v := ?_) rfl (by kernel_rfl) (fun _ _ _ h => h) (Or.inl ⟨by rfl, ?_⟩) (by assumption) ?_
          rotate_left
          · (intro w hSw; (try dsimp only at hSw); go_simp; try with_reducible rfl)
          try simp only [Act.put, List.getElem_toArray, List.getElem_cons_zero, List.getElem_cons_succ, List.setIfInBounds_toArray, List.set_cons_zero, List.set_cons_succ]
          have h7 : w1.drew.heap.size = w1.heap.size := rfl
          have lf := Q1.out.q.f.box.lt
          have lg := Q1.out.q.g.box.lt
          have ld := Q1.out.d.lt
          have le1 := LE.out.1
          have le2 := LE.out.2
          have sw := SW1.out
          have hFB : F < x1.heap.size := by omega
          have hGB : G < x1.heap.size := by omega
          have hDB : D < x1.heap.size := by omega
          have qx : ∀ y, ax = some y → 1 ≤ nx → y.block ≠ x1.heap.size := fun y hy hn => by have := XX.out y hy; omega
          have qf : ∀ y, af = some y → 1 ≤ nf → y.block ≠ x1.heap.size := fun y hy hn => by have := FF.out.1 y hy hn; omega
          have qg : ∀ y, ag = some y → 1 ≤ ng → y.block ≠ x1.heap.size := fun y hy hn => by have := FF.out.2 y hy hn; omega
          have HP := Lib.hid (show MS W W.heap.size F G D af nf capf zf pf jf ag ng capg zg pg jg i1 m1 k1 ra rn rc (((x3.setCell ⟨x1.heap.size, 0, none⟩ (.slice ax nx capx)).setCell ⟨x1.heap.size, 1, none⟩ (.int .i64 px)).setCell ⟨x1.heap.size, 2, none⟩ (.int .i64 jx)) from ((T3.out.other hFB hGB hDB qf qg _ _).other hFB hGB hDB qf qg _ _).other hFB hGB hDB qf qg _ _)
          have HX8 := Lib.hid (show Cur3 (((x3.setCell ⟨x1.heap.size, 0, none⟩ (.slice ax nx capx)).setCell ⟨x1.heap.size, 1, none⟩ (.int .i64 px)).setCell ⟨x1.heap.size, 2, none⟩ (.int .i64 jx)) x1.heap.size (.slice ax nx capx) (.int .i64 px) (.int .i64 jx) ∧ RowZ (((x3.setCell ⟨x1.heap.size, 0, none⟩ (.slice ax nx capx)).setCell ⟨x1.heap.size, 1, none⟩ (.int .i64 px)).setCell ⟨x1.heap.size, 2, none⟩ (.int .i64 jx)) ax nx capx zx from ⟨NBs.out.set _ _ _, ((RX.out.store qx _ _).store qx _ _).store qx _ _⟩)
          have HDE := Lib.hid HDD.out.1
          obtain ⟨n0, n1, n2, n3, n4, n5⟩ := NBs.out
          clear qx qf qg le1 le2 lf lg ld sw h7
          refine wpAnyK_step (i := 12) rfl (by kernel_rfl) (fun K hK => ?_)
          go_simp
          refine hK.out _ _ (mss_of HP.out) (fun hHeld9 => ?_)
          clear hK K hHeld3
          try simp only [Act.put, List.getElem_toArray, List.getElem_cons_zero, List.getElem_cons_succ, List.setIfInBounds_toArray, List.set_cons_zero, List.set_cons_succ]
          refine wpAnyK_done (by kernel_rfl) ?_
          simp only [List.drop_succ_cons, List.drop_zero]
          clear hHeld9
          go_wp2_with fail
          go_meet
          exact ⟨x1.heap.size, ax, nx, capx, zx, px, jx, cx, d, rfl, rfl, HDE, MX, HX8, HP⟩
      · go_simp
        obtain ⟨x1, hvx1⟩ : ∃ W', (w1.alloc (.cells #[.slice none 0 0, .int .i64 0, .int .i64 0] 24)).drew = W' := ⟨_, rfl⟩
        have hux1 : w1.drew.alloc (.cells #[.slice none 0 0, .int .i64 0, .int .i64 0] 24) = x1 := hvx1
        have hbx1 : Below w1.drew.heap.size w1.drew x1 := by rw [← hux1]; exact below_box _
        have NB := Lib.hid (show Cur3 x1 w1.heap.size (.slice none 0 0) (.int .i64 0) (.int .i64 0) by rw [← hux1]; exact Cur3.new w1.drew _ _ _ _)
        have T1 := Lib.hid (Q1.out.call hbx1)
        have LE := Lib.hid (show w1.heap.size ≤ w1.drew.heap.size ∧ w1.drew.heap.size < x1.heap.size from ⟨Nat.le_refl _, by rw [← hux1]; simp⟩)
        rw [hvx1]
        clear hux1 hvx1
        refine hK.out _ _ (mss_of T1.out) (fun hHeld1 => ?_)
        clear hK K hHeld0 hbx1
        try simp only [Act.put, List.getElem_toArray, List.getElem_cons_zero, List.getElem_cons_succ, List.setIfInBounds_toArray, List.set_cons_zero, List.set_cons_succ]
        refine wpAnyK_step (i := 5) rfl (by kernel_rfl) (fun K hK => ?_)
        go_simp
        refine (n_any 20 (by omega) (by omega) _ ra rn rc _ T1.out.q.src).mono ?_
        rintro e x2 ⟨r, ⟨r0, r1⟩, rfl, hs, he'⟩
        have he := he'.apart
        obtain ⟨d, hd⟩ : ∃ d : Nat, (300 : Int) + r = (d : Int) := ⟨((300 : Int) + r).toNat, by have := HMM.out; omega⟩
        have hdw : IntKind.i64.wrap (d : Int) = (d : Int) := IntWalk.i64_in _ ⟨by omega, by have := HMM.out; omega⟩
        have HDD := Lib.hid (show (m1 ≤ 300 → m1 ≤ (d : Int)) ∧ d ≤ 400 by have := HMM.out; omega)
        clear he' r0 r1
        have T2 := Lib.hid (T1.out.read hs he)
        have L2 := Lib.hid (show x1.heap.size ≤ x2.heap.size from he.size)
        have NBr := Lib.hid (NB.out.apart he (by have := LE.out.1; have := Q1.out.q.f.box.lt; have := Q1.out.q.bF; show _ ≠ _; have h7 : w1.drew.heap.size = w1.heap.size := rfl; omega))
        refine hK.out _ _ (mss_of T2.out) (fun hHeld2 => ?_)
        clear hK K hHeld1 hs he
        try simp only [Act.put, List.getElem_toArray, List.getElem_cons_zero, List.getElem_cons_succ, List.setIfInBounds_toArray, List.set_cons_zero, List.set_cons_succ]
        refine wpAnyK_take (i := 6) (v := ?_) rfl (by kernel_rfl) (fun _ _ _ h => h) (Or.inl ⟨by rfl, ?_⟩) (by assumption) ?_
        rotate_left
        · (intro w hSw; (try dsimp only at hSw); go_simp; try with_reducible rfl)
        try simp only [Act.put, List.getElem_toArray, List.getElem_cons_zero, List.getElem_cons_succ, List.setIfInBounds_toArray, List.set_cons_zero, List.set_cons_succ]
        refine wpAnyK_step (i := 7) rfl (by kernel_rfl) (fun K hK => ?_)
        go_simp
        with_reducible refine ((rlater_ok af nf capf zf pf jf OF.out.1 (d : Int) d rfl HDD.out.2 _ T2.out.q.f.row).mono fun _ _ h => h.z4).mono ?_
        rintro e x3 ⟨ax, nx, capx, zx, px, jx, cx, rfl, hb, hr, hm, hx⟩
        have T3 := Lib.hid (T2.out.call hb)
        have RX := Lib.hid hr
        have MX := Lib.hid hm
        have XX := Lib.hid (show ∀ y, ax = some y → x2.heap.size ≤ y.block from hx)
        have L3 := Lib.hid (show x2.heap.size ≤ x3.heap.size from hb.size)
        have NBrs := Lib.hid (NBr.out.below hb)
        refine hK.out _ _ (mss_of T3.out) (fun hHeld3 => ?_)
        clear hK K hHeld2 hb hr hm hx
        try simp only [Act.put, List.getElem_toArray, List.getElem_cons_zero, List.getElem_cons_succ, List.setIfInBounds_toArray, List.set_cons_zero, List.set_cons_succ]
        refine wpAnyK_take (i := 8) (v := ?_) rfl (by kernel_rfl) (fun _ _ _ h => h) (Or.inl ⟨by rfl, ?_⟩) (by assumption) ?_
        rotate_left
        · (intro w hSw; (try dsimp only at hSw); go_simp; try with_reducible rfl)
        try simp only [Act.put, List.getElem_toArray, List.getElem_cons_zero, List.getElem_cons_succ, List.setIfInBounds_toArray, List.set_cons_zero, List.set_cons_succ]
        refine wpAnyK_take (i := 9) (v := ?_) rfl (by kernel_rfl) (fun _ _ _ h => h) (Or.inl ⟨by rfl, ?_⟩) (by assumption) ?_
        rotate_left
        · (intro w hSw; (try dsimp only at hSw); go_simp; try with_reducible rfl)
        try simp only [Act.put, List.getElem_toArray, List.getElem_cons_zero, List.getElem_cons_succ, List.setIfInBounds_toArray, List.set_cons_zero, List.set_cons_succ]
        refine wpAnyK_take (i := 10) (v := ?_) rfl (by kernel_rfl) (fun _ _ _ h => h) (Or.inl ⟨by rfl, ?_⟩) (by assumption) ?_
        rotate_left
        · (intro w hSw; (try dsimp only at hSw); go_simp; try with_reducible rfl)
        try simp only [Act.put, List.getElem_toArray, List.getElem_cons_zero, List.getElem_cons_succ, List.setIfInBounds_toArray, List.set_cons_zero, List.set_cons_succ]
        have h7 : w1.drew.heap.size = w1.heap.size := rfl
        have lf := Q1.out.q.f.box.lt
        have lg := Q1.out.q.g.box.lt
        have ld := Q1.out.d.lt
        have le1 := LE.out.1
        have le2 := LE.out.2
        have sw := SW1.out
        have hFB : F < w1.heap.size := by omega
        have hGB : G < w1.heap.size := by omega
        have hDB : D < w1.heap.size := by omega
        have qx : ∀ y, ax = some y → 1 ≤ nx → y.block ≠ w1.heap.size := fun y hy hn => by have := XX.out y hy; have := L2.out; omega
        have qf : ∀ y, af = some y → 1 ≤ nf → y.block ≠ w1.heap.size := fun y hy hn => by have := FF.out.1 y hy hn; omega
        have qg : ∀ y, ag = some y → 1 ≤ ng → y.block ≠ w1.heap.size := fun y hy hn => by have := FF.out.2 y hy hn; omega
        have HP := Lib.hid (show MS W W.heap.size F G D af nf capf zf pf jf ag ng capg zg pg jg i1 m1 k1 ra rn rc (((x3.setCell ⟨w1.heap.size, 0, none⟩ (.slice ax nx capx)).setCell ⟨w1.heap.size, 1, none⟩ (.int .i64 px)).setCell ⟨w1.heap.size, 2, none⟩ (.int .i64 jx)) from ((T3.out.other hFB hGB hDB qf qg _ _).other hFB hGB hDB qf qg _ _).other hFB hGB hDB qf qg _ _)
        have HX8 := Lib.hid (show Cur3 (((x3.setCell ⟨w1.heap.size, 0, none⟩ (.slice ax nx capx)).setCell ⟨w1.heap.size, 1, none⟩ (.int .i64 px)).setCell ⟨w1.heap.size, 2, none⟩ (.int .i64 jx)) w1.heap.size (.slice ax nx capx) (.int .i64 px) (.int .i64 jx) ∧ RowZ (((x3.setCell ⟨w1.heap.size, 0, none⟩ (.slice ax nx capx)).setCell ⟨w1.heap.size, 1, none⟩ (.int .i64 px)).setCell ⟨w1.heap.size, 2, none⟩ (.int .i64 jx)) ax nx capx zx from ⟨NBrs.out.set _ _ _, ((RX.out.store qx _ _).store qx _ _).store qx _ _⟩)
        have HDE := Lib.hid HDD.out.1
        obtain ⟨n0, n1, n2, n3, n4, n5⟩ := NBrs.out
        clear qx qf qg le1 le2 lf lg ld sw h7
        refine wpAnyK_step (i := 12) rfl (by kernel_rfl) (fun K hK => ?_)
        go_simp
        refine hK.out _ _ (mss_of HP.out) (fun hHeld9 => ?_)
        clear hK K hHeld3
        try simp only [Act.put, List.getElem_toArray, List.getElem_cons_zero, List.getElem_cons_succ, List.setIfInBounds_toArray, List.set_cons_zero, List.set_cons_succ]
        refine wpAnyK_done (by kernel_rfl) ?_
        simp only [List.drop_succ_cons, List.drop_zero]
        clear hHeld9
        go_wp2_with fail
        go_meet
        exact ⟨w1.heap.size, ax, nx, capx, zx, px, jx, cx, d, rfl, rfl, HDE, MX, HX8, HP⟩
    · have h3' : ¬ (300 : Int) < m1 := h3
      have HMM := Lib.hid (show 0 ≤ m1 ∧ m1 ≤ 300 ∧ (m1 ≤ 300 → m1 ≤ m1) by omega)
      refine wp_region_keeps (fun u => MSS W W.heap.size F G D af nf capf zf pf jf ag ng capg zg pg jg i1 m1 k1 ra rn rc u) 13 1 (by kernel_rfl) (by kernel_rfl) (mss_of Q1.out) (fun hHeld0 => ?_)
      refine wpAnyK_take (i := 0) (v := ?_) rfl (by kernel_rfl) (fun _ _ _ h => h) (Or.inl ⟨by rfl, ?_⟩) (by assumption) ?_
      rotate_left
      · (intro w hSw; (try dsimp only at hSw); go_simp; try with_reducible rfl)
      try simp only [Act.put, List.getElem_toArray, List.getElem_cons_zero, List.getElem_cons_succ, List.setIfInBounds_toArray, List.set_cons_zero, List.set_cons_succ]
      refine wpAnyK_take (i := 1) (v := ?_) rfl (by kernel_rfl) (fun _ _ _ h => h) (Or.inl ⟨by rfl, ?_⟩) (by assumption) ?_
      rotate_left
      · (intro w hSw; (try dsimp only at hSw); go_simp; try with_reducible rfl)
      try simp only [Act.put, List.getElem_toArray, List.getElem_cons_zero, List.getElem_cons_succ, List.setIfInBounds_toArray, List.set_cons_zero, List.set_cons_succ]
      refine wpAnyK_take (i := 2) (v := ?_) rfl (by kernel_rfl) (fun _ _ _ h => h) (Or.inl ⟨by rfl, ?_⟩) (by assumption) ?_
      rotate_left
      · (intro w hSw; (try dsimp only at hSw); go_simp; try with_reducible rfl)
      try simp only [Act.put, List.getElem_toArray, List.getElem_cons_zero, List.getElem_cons_succ, List.setIfInBounds_toArray, List.set_cons_zero, List.set_cons_succ]
      refine wpAnyK_take (i := 3) (v := ?_) rfl (by kernel_rfl) (fun _ _ _ h => h) (Or.inl ⟨by rfl, ?_⟩) (by assumption) ?_
      rotate_left
      · (intro w hSw; (try dsimp only at hSw); go_simp; try with_reducible rfl)
      try simp only [Act.put, List.getElem_toArray, List.getElem_cons_zero, List.getElem_cons_succ, List.setIfInBounds_toArray, List.set_cons_zero, List.set_cons_succ]
      refine wpAnyK_take (i := 4) (v := ?_) rfl (by kernel_rfl) (fun _ _ _ h => h) (Or.inl ⟨by rfl, ?_⟩) (by assumption) ?_
      rotate_left
      · (intro w hSw; (try dsimp only at hSw); go_simp; try with_reducible rfl)
      try simp only [Act.put, List.getElem_toArray, List.getElem_cons_zero, List.getElem_cons_succ, List.setIfInBounds_toArray, List.set_cons_zero, List.set_cons_succ]
      refine wpAnyK_two (i := 5) (j := 11) rfl rfl (by kernel_rfl) (fun K hK => ?_) (fun K hK => ?_)
      · go_simp
        refine (n_any 20 (by omega) (by omega) _ ra rn rc _ Q1.out.q.src).mono ?_
        rintro e x1 ⟨r, ⟨r0, r1⟩, rfl, hs, he'⟩
        have he := he'.apart
        obtain ⟨d, hd⟩ : ∃ d : Nat, m1 + r = (d : Int) := ⟨(m1 + r).toNat, by have := HMM.out; omega⟩
        have hdw : IntKind.i64.wrap (d : Int) = (d : Int) := IntWalk.i64_in _ ⟨by omega, by have := HMM.out; omega⟩
        have HDD := Lib.hid (show (m1 ≤ 300 → m1 ≤ (d : Int)) ∧ d ≤ 400 by have := HMM.out; omega)
        clear he' r0 r1
        have T1 := Lib.hid (Q1.out.read hs he)
        have L2 := Lib.hid (show w1.drew.heap.size ≤ x1.heap.size from he.size)
        refine hK.out _ _ (mss_of T1.out) (fun hHeld1 => ?_)
        clear hK K hHeld0 hs he
        try simp only [Act.put, List.getElem_toArray, List.getElem_cons_zero, List.getElem_cons_succ, List.setIfInBounds_toArray, List.set_cons_zero, List.set_cons_succ]
        refine wpAnyK_take (i := 6) (v := ?_) rfl (by kernel_rfl) (fun _ _ _ h => h) (Or.inl ⟨by rfl, ?_⟩) (by assumption) ?_
        rotate_left
        · (intro w hSw; (try dsimp only at hSw); go_simp; try with_reducible rfl)
        try simp only [Act.put, List.getElem_toArray, List.getElem_cons_zero, List.getElem_cons_succ, List.setIfInBounds_toArray, List.set_cons_zero, List.set_cons_succ]
        refine wpAnyK_two (i := 7) (j := 11) rfl rfl (by kernel_rfl) (fun K hK => ?_) (fun K hK => ?_)
        · go_simp
          with_reducible refine ((rlater_ok af nf capf zf pf jf OF.out.1 (d : Int) d rfl HDD.out.2 _ T1.out.q.f.row).mono fun _ _ h => h.z4).mono ?_
          rintro e x2 ⟨ax, nx, capx, zx, px, jx, cx, rfl, hb, hr, hm, hx⟩
          have T2 := Lib.hid (T1.out.call hb)
          have RX := Lib.hid hr
          have MX := Lib.hid hm
          have XX := Lib.hid (show ∀ y, ax = some y → x1.heap.size ≤ y.block from hx)
          have L3 := Lib.hid (show x1.heap.size ≤ x2.heap.size from hb.size)
          refine hK.out _ _ (mss_of T2.out) (fun hHeld2 => ?_)
          clear hK K hHeld1 hb hr hm hx
          try simp only [Act.put, List.getElem_toArray, List.getElem_cons_zero, List.getElem_cons_succ, List.setIfInBounds_toArray, List.set_cons_zero, List.set_cons_succ]
          refine wpAnyK_take (i := 8) (v := ?_) rfl (by kernel_rfl) (fun _ _ _ h => h) (Or.inl ⟨by rfl, ?_⟩) (by assumption) ?_
          rotate_left
          · (intro w hSw; (try dsimp only at hSw); go_simp; try with_reducible rfl)
          try simp only [Act.put, List.getElem_toArray, List.getElem_cons_zero, List.getElem_cons_succ, List.setIfInBounds_toArray, List.set_cons_zero, List.set_cons_succ]
          refine wpAnyK_take (i := 9) (v := ?_) rfl (by kernel_rfl) (fun _ _ _ h => h) (Or.inl ⟨by rfl, ?_⟩) (by assumption) ?_
          rotate_left
          · (intro w hSw; (try dsimp only at hSw); go_simp; try with_reducible rfl)
          try simp only [Act.put, List.getElem_toArray, List.getElem_cons_zero, List.getElem_cons_succ, List.setIfInBounds_toArray, List.set_cons_zero, List.set_cons_succ]
          refine wpAnyK_take (i := 10) (v := ?_) rfl (by kernel_rfl) (fun _ _ _ h => h) (Or.inl ⟨by rfl, ?_⟩) (by assumption) ?_
          rotate_left
          · (intro w hSw; (try dsimp only at hSw); go_simp; try with_reducible rfl)
          try simp only [Act.put, List.getElem_toArray, List.getElem_cons_zero, List.getElem_cons_succ, List.setIfInBounds_toArray, List.set_cons_zero, List.set_cons_succ]
          refine wpAnyK_step (i := 11) rfl (by kernel_rfl) (fun K hK => ?_)
          go_simp
          obtain ⟨x3, hux3⟩ : ∃ W', x2.alloc (.cells #[.slice none 0 0, .int .i64 0, .int .i64 0] 24) = W' := ⟨_, rfl⟩
          have hvx3 := hux3
          have hbx3 : Below x2.heap.size x2 x3 := by rw [← hux3]; exact below_box _
          have NB := Lib.hid (show Cur3 x3 x2.heap.size (.slice none 0 0) (.int .i64 0) (.int .i64 0) by rw [← hux3]; exact Cur3.new x2 _ _ _ _)
          have T3 := Lib.hid (T2.out.call hbx3)
          have RXb := Lib.hid (RX.out.under hbx3)
          have LE := Lib.hid (show w1.heap.size ≤ x2.heap.size ∧ x2.heap.size < x3.heap.size from ⟨Nat.le_trans L2.out L3.out, by rw [← hux3]; simp⟩)
          rw [hvx3]
          clear hux3 hvx3
          refine hK.out _ _ (mss_of T3.out) (fun hHeld3 => ?_)
          clear hK K hHeld2 hbx3
          try simp only [Act.put, List.getElem_toArray, List.getElem_cons_zero, List.getElem_cons_succ, List.setIfInBounds_toArray, List.set_cons_zero, List.set_cons_succ]
          have h7 : w1.drew.heap.size = w1.heap.size := rfl
          have lf := Q1.out.q.f.box.lt
          have lg := Q1.out.q.g.box.lt
          have ld := Q1.out.d.lt
          have le1 := LE.out.1
          have le2 := LE.out.2
          have sw := SW1.out
          have hFB : F < x2.heap.size := by omega
          have hGB : G < x2.heap.size := by omega
          have hDB : D < x2.heap.size := by omega
          have qx : ∀ y, ax = some y → 1 ≤ nx → y.block ≠ x2.heap.size := fun y hy hn => by have := RX.out.far y hy hn; omega
          have qf : ∀ y, af = some y → 1 ≤ nf → y.block ≠ x2.heap.size := fun y hy hn => by have := FF.out.1 y hy hn; omega
          have qg : ∀ y, ag = some y → 1 ≤ ng → y.block ≠ x2.heap.size := fun y hy hn => by have := FF.out.2 y hy hn; omega
          have HP := Lib.hid (show MS W W.heap.size F G D af nf capf zf pf jf ag ng capg zg pg jg i1 m1 k1 ra rn rc (((x3.setCell ⟨x2.heap.size, 0, none⟩ (.slice ax nx capx)).setCell ⟨x2.heap.size, 1, none⟩ (.int .i64 px)).setCell ⟨x2.heap.size, 2, none⟩ (.int .i64 jx)) from ((T3.out.other hFB hGB hDB qf qg _ _).other hFB hGB hDB qf qg _ _).other hFB hGB hDB qf qg _ _)
          have HX8 := Lib.hid (show Cur3 (((x3.setCell ⟨x2.heap.size, 0, none⟩ (.slice ax nx capx)).setCell ⟨x2.heap.size, 1, none⟩ (.int .i64 px)).setCell ⟨x2.heap.size, 2, none⟩ (.int .i64 jx)) x2.heap.size (.slice ax nx capx) (.int .i64 px) (.int .i64 jx) ∧ RowZ (((x3.setCell ⟨x2.heap.size, 0, none⟩ (.slice ax nx capx)).setCell ⟨x2.heap.size, 1, none⟩ (.int .i64 px)).setCell ⟨x2.heap.size, 2, none⟩ (.int .i64 jx)) ax nx capx zx from ⟨NB.out.set _ _ _, ((RXb.out.store qx _ _).store qx _ _).store qx _ _⟩)
          have HDE := Lib.hid HDD.out.1
          obtain ⟨n0, n1, n2, n3, n4, n5⟩ := NB.out
          clear qx qf qg le1 le2 lf lg ld sw h7
          refine wpAnyK_step (i := 12) rfl (by kernel_rfl) (fun K hK => ?_)
          go_simp
          refine hK.out _ _ (mss_of HP.out) (fun hHeld9 => ?_)
          clear hK K hHeld3
          try simp only [Act.put, List.getElem_toArray, List.getElem_cons_zero, List.getElem_cons_succ, List.setIfInBounds_toArray, List.set_cons_zero, List.set_cons_succ]
          refine wpAnyK_done (by kernel_rfl) ?_
          simp only [List.drop_succ_cons, List.drop_zero]
          clear hHeld9
          go_wp2_with fail
          go_meet
          exact ⟨x2.heap.size, ax, nx, capx, zx, px, jx, cx, d, rfl, rfl, HDE, MX, HX8, HP⟩
        · go_simp
          obtain ⟨x2, hux2⟩ : ∃ W', x1.alloc (.cells #[.slice none 0 0, .int .i64 0, .int .i64 0] 24) = W' := ⟨_, rfl⟩
          have hvx2 := hux2
          have hbx2 : Below x1.heap.size x1 x2 := by rw [← hux2]; exact below_box _
          have NB := Lib.hid (show Cur3 x2 x1.heap.size (.slice none 0 0) (.int .i64 0) (.int .i64 0) by rw [← hux2]; exact Cur3.new x1 _ _ _ _)
          have T2 := Lib.hid (T1.out.call hbx2)
          have LE := Lib.hid (show w1.heap.size ≤ x1.heap.size ∧ x1.heap.size < x2.heap.size from ⟨L2.out, by rw [← hux2]; simp⟩)
          rw [hvx2]
          clear hux2 hvx2
          refine hK.out _ _ (mss_of T2.out) (fun hHeld2 => ?_)
          clear hK K hHeld1 hbx2
          try simp only [Act.put, List.getElem_toArray, List.getElem_cons_zero, List.getElem_cons_succ, List.setIfInBounds_toArray, List.set_cons_zero, List.set_cons_succ]
          refine wpAnyK_step (i := 7) rfl (by kernel_rfl) (fun K hK => ?_)
          go_simp
          with_reducible refine ((rlater_ok af nf capf zf pf jf OF.out.1 (d : Int) d rfl HDD.out.2 _ T2.out.q.f.row).mono fun _ _ h => h.z4).mono ?_
          rintro e x3 ⟨ax, nx, capx, zx, px, jx, cx, rfl, hb, hr, hm, hx⟩
          have T3 := Lib.hid (T2.out.call hb)
          have RX := Lib.hid hr
          have MX := Lib.hid hm
          have XX := Lib.hid (show ∀ y, ax = some y → x2.heap.size ≤ y.block from hx)
          have L3 := Lib.hid (show x2.heap.size ≤ x3.heap.size from hb.size)
          have NBs := Lib.hid (NB.out.below hb)
          refine hK.out _ _ (mss_of T3.out) (fun hHeld3 => ?_)
          clear hK K hHeld2 hb hr hm hx
          try simp only [Act.put, List.getElem_toArray, List.getElem_cons_zero, List.getElem_cons_succ, List.setIfInBounds_toArray, List.set_cons_zero, List.set_cons_succ]
          refine wpAnyK_take (i := 8) (v := ?_) rfl (by kernel_rfl) (fun _ _ _ h => h) (Or.inl ⟨by rfl, ?_⟩) (by assumption) ?_
          rotate_left
          · (intro w hSw; (try dsimp only at hSw); go_simp; try with_reducible rfl)
          try simp only [Act.put, List.getElem_toArray, List.getElem_cons_zero, List.getElem_cons_succ, List.setIfInBounds_toArray, List.set_cons_zero, List.set_cons_succ]
          refine wpAnyK_take (i := 9) (v := ?_) rfl (by kernel_rfl) (fun _ _ _ h => h) (Or.inl ⟨by rfl, ?_⟩) (by assumption) ?_
          rotate_left
          · (intro w hSw; (try dsimp only at hSw); go_simp; try with_reducible rfl)
          try simp only [Act.put, List.getElem_toArray, List.getElem_cons_zero, List.getElem_cons_succ, List.setIfInBounds_toArray, List.set_cons_zero, List.set_cons_succ]
          refine wpAnyK_take (i := 10) (v := ?_) rfl (by kernel_rfl) (fun _ _ _ h => h) (Or.inl ⟨by rfl, ?_⟩) (by assumption) ?_
          rotate_left
          · (intro w hSw; (try dsimp only at hSw); go_simp; try with_reducible rfl)
          try simp only [Act.put, List.getElem_toArray, List.getElem_cons_zero, List.getElem_cons_succ, List.setIfInBounds_toArray, List.set_cons_zero, List.set_cons_succ]
          have h7 : w1.drew.heap.size = w1.heap.size := rfl
          have lf := Q1.out.q.f.box.lt
          have lg := Q1.out.q.g.box.lt
          have ld := Q1.out.d.lt
          have le1 := LE.out.1
          have le2 := LE.out.2
          have sw := SW1.out
          have hFB : F < x1.heap.size := by omega
          have hGB : G < x1.heap.size := by omega
          have hDB : D < x1.heap.size := by omega
          have qx : ∀ y, ax = some y → 1 ≤ nx → y.block ≠ x1.heap.size := fun y hy hn => by have := XX.out y hy; omega
          have qf : ∀ y, af = some y → 1 ≤ nf → y.block ≠ x1.heap.size := fun y hy hn => by have := FF.out.1 y hy hn; omega
          have qg : ∀ y, ag = some y → 1 ≤ ng → y.block ≠ x1.heap.size := fun y hy hn => by have := FF.out.2 y hy hn; omega
          have HP := Lib.hid (show MS W W.heap.size F G D af nf capf zf pf jf ag ng capg zg pg jg i1 m1 k1 ra rn rc (((x3.setCell ⟨x1.heap.size, 0, none⟩ (.slice ax nx capx)).setCell ⟨x1.heap.size, 1, none⟩ (.int .i64 px)).setCell ⟨x1.heap.size, 2, none⟩ (.int .i64 jx)) from ((T3.out.other hFB hGB hDB qf qg _ _).other hFB hGB hDB qf qg _ _).other hFB hGB hDB qf qg _ _)
          have HX8 := Lib.hid (show Cur3 (((x3.setCell ⟨x1.heap.size, 0, none⟩ (.slice ax nx capx)).setCell ⟨x1.heap.size, 1, none⟩ (.int .i64 px)).setCell ⟨x1.heap.size, 2, none⟩ (.int .i64 jx)) x1.heap.size (.slice ax nx capx) (.int .i64 px) (.int .i64 jx) ∧ RowZ (((x3.setCell ⟨x1.heap.size, 0, none⟩ (.slice ax nx capx)).setCell ⟨x1.heap.size, 1, none⟩ (.int .i64 px)).setCell ⟨x1.heap.size, 2, none⟩ (.int .i64 jx)) ax nx capx zx from ⟨NBs.out.set _ _ _, ((RX.out.store qx _ _).store qx _ _).store qx _ _⟩)
          have HDE := Lib.hid HDD.out.1
          obtain ⟨n0, n1, n2, n3, n4, n5⟩ := NBs.out
          clear qx qf qg le1 le2 lf lg ld sw h7
          refine wpAnyK_step (i := 12) rfl (by kernel_rfl) (fun K hK => ?_)
          go_simp
          refine hK.out _ _ (mss_of HP.out) (fun hHeld9 => ?_)
          clear hK K hHeld3
          try simp only [Act.put, List.getElem_toArray, List.getElem_cons_zero, List.getElem_cons_succ, List.setIfInBounds_toArray, List.set_cons_zero, List.set_cons_succ]
          refine wpAnyK_done (by kernel_rfl) ?_
          simp only [List.drop_succ_cons, List.drop_zero]
          clear hHeld9
          go_wp2_with fail
          go_meet
          exact ⟨x1.heap.size, ax, nx, capx, zx, px, jx, cx, d, rfl, rfl, HDE, MX, HX8, HP⟩
      · go_simp
        obtain ⟨x1, hvx1⟩ : ∃ W', (w1.alloc (.cells #[.slice none 0 0, .int .i64 0, .int .i64 0] 24)).drew = W' := ⟨_, rfl⟩
        have hux1 : w1.drew.alloc (.cells #[.slice none 0 0, .int .i64 0, .int .i64 0] 24) = x1 := hvx1
        have hbx1 : Below w1.drew.heap.size w1.drew x1 := by rw [← hux1]; exact below_box _
        have NB := Lib.hid (show Cur3 x1 w1.heap.size (.slice none 0 0) (.int .i64 0) (.int .i64 0) by rw [← hux1]; exact Cur3.new w1.drew _ _ _ _)
        have T1 := Lib.hid (Q1.out.call hbx1)
        have LE := Lib.hid (show w1.heap.size ≤ w1.drew.heap.size ∧ w1.drew.heap.size < x1.heap.size from ⟨Nat.le_refl _, by rw [← hux1]; simp⟩)
        rw [hvx1]
        clear hux1 hvx1
        refine hK.out _ _ (mss_of T1.out) (fun hHeld1 => ?_)
        clear hK K hHeld0 hbx1
        try simp only [Act.put, List.getElem_toArray, List.getElem_cons_zero, List.getElem_cons_succ, List.setIfInBounds_toArray, List.set_cons_zero, List.set_cons_succ]
        refine wpAnyK_step (i := 5) rfl (by kernel_rfl) (fun K hK => ?_)
        go_simp
        refine (n_any 20 (by omega) (by omega) _ ra rn rc _ T1.out.q.src).mono ?_
        rintro e x2 ⟨r, ⟨r0, r1⟩, rfl, hs, he'⟩
        have he := he'.apart
        obtain ⟨d, hd⟩ : ∃ d : Nat, m1 + r = (d : Int) := ⟨(m1 + r).toNat, by have := HMM.out; omega⟩
        have hdw : IntKind.i64.wrap (d : Int) = (d : Int) := IntWalk.i64_in _ ⟨by omega, by have := HMM.out; omega⟩
        have HDD := Lib.hid (show (m1 ≤ 300 → m1 ≤ (d : Int)) ∧ d ≤ 400 by have := HMM.out; omega)
        clear he' r0 r1
        have T2 := Lib.hid (T1.out.read hs he)
        have L2 := Lib.hid (show x1.heap.size ≤ x2.heap.size from he.size)
        have NBr := Lib.hid (NB.out.apart he (by have := LE.out.1; have := Q1.out.q.f.box.lt; have := Q1.out.q.bF; show _ ≠ _; have h7 : w1.drew.heap.size = w1.heap.size := rfl; omega))
        refine hK.out _ _ (mss_of T2.out) (fun hHeld2 => ?_)
        clear hK K hHeld1 hs he
        try simp only [Act.put, List.getElem_toArray, List.getElem_cons_zero, List.getElem_cons_succ, List.setIfInBounds_toArray, List.set_cons_zero, List.set_cons_succ]
        refine wpAnyK_take (i := 6) (v := ?_) rfl (by kernel_rfl) (fun _ _ _ h => h) (Or.inl ⟨by rfl, ?_⟩) (by assumption) ?_
        rotate_left
        · (intro w hSw; (try dsimp only at hSw); go_simp; try with_reducible rfl)
        try simp only [Act.put, List.getElem_toArray, List.getElem_cons_zero, List.getElem_cons_succ, List.setIfInBounds_toArray, List.set_cons_zero, List.set_cons_succ]
        refine wpAnyK_step (i := 7) rfl (by kernel_rfl) (fun K hK => ?_)
        go_simp
        with_reducible refine ((rlater_ok af nf capf zf pf jf OF.out.1 (d : Int) d rfl HDD.out.2 _ T2.out.q.f.row).mono fun _ _ h => h.z4).mono ?_
        rintro e x3 ⟨ax, nx, capx, zx, px, jx, cx, rfl, hb, hr, hm, hx⟩
        have T3 := Lib.hid (T2.out.call hb)
        have RX := Lib.hid hr
        have MX := Lib.hid hm
        have XX := Lib.hid (show ∀ y, ax = some y → x2.heap.size ≤ y.block from hx)
        have L3 := Lib.hid (show x2.heap.size ≤ x3.heap.size from hb.size)
        have NBrs := Lib.hid (NBr.out.below hb)
        refine hK.out _ _ (mss_of T3.out) (fun hHeld3 => ?_)
        clear hK K hHeld2 hb hr hm hx
        try simp only [Act.put, List.getElem_toArray, List.getElem_cons_zero, List.getElem_cons_succ, List.setIfInBounds_toArray, List.set_cons_zero, List.set_cons_succ]
        refine wpAnyK_take (i := 8) (v := ?_) rfl (by kernel_rfl) (fun _ _ _ h => h) (Or.inl ⟨by rfl, ?_⟩) (by assumption) ?_
        rotate_left
        · (intro w hSw; (try dsimp only at hSw); go_simp; try with_reducible rfl)
        try simp only [Act.put, List.getElem_toArray, List.getElem_cons_zero, List.getElem_cons_succ, List.setIfInBounds_toArray, List.set_cons_zero, List.set_cons_succ]
        refine wpAnyK_take (i := 9) (v := ?_) rfl (by kernel_rfl) (fun _ _ _ h => h) (Or.inl ⟨by rfl, ?_⟩) (by assumption) ?_
        rotate_left
        · (intro w hSw; (try dsimp only at hSw); go_simp; try with_reducible rfl)
        try simp only [Act.put, List.getElem_toArray, List.getElem_cons_zero, List.getElem_cons_succ, List.setIfInBounds_toArray, List.set_cons_zero, List.set_cons_succ]
        refine wpAnyK_take (i := 10) (v := ?_) rfl (by kernel_rfl) (fun _ _ _ h => h) (Or.inl ⟨by rfl, ?_⟩) (by assumption) ?_
        rotate_left
        · (intro w hSw; (try dsimp only at hSw); go_simp; try with_reducible rfl)
        try simp only [Act.put, List.getElem_toArray, List.getElem_cons_zero, List.getElem_cons_succ, List.setIfInBounds_toArray, List.set_cons_zero, List.set_cons_succ]
        have h7 : w1.drew.heap.size = w1.heap.size := rfl
        have lf := Q1.out.q.f.box.lt
        have lg := Q1.out.q.g.box.lt
        have ld := Q1.out.d.lt
        have le1 := LE.out.1
        have le2 := LE.out.2
        have sw := SW1.out
        have hFB : F < w1.heap.size := by omega
        have hGB : G < w1.heap.size := by omega
        have hDB : D < w1.heap.size := by omega
        have qx : ∀ y, ax = some y → 1 ≤ nx → y.block ≠ w1.heap.size := fun y hy hn => by have := XX.out y hy; have := L2.out; omega
        have qf : ∀ y, af = some y → 1 ≤ nf → y.block ≠ w1.heap.size := fun y hy hn => by have := FF.out.1 y hy hn; omega
        have qg : ∀ y, ag = some y → 1 ≤ ng → y.block ≠ w1.heap.size := fun y hy hn => by have := FF.out.2 y hy hn; omega
        have HP := Lib.hid (show MS W W.heap.size F G D af nf capf zf pf jf ag ng capg zg pg jg i1 m1 k1 ra rn rc (((x3.setCell ⟨w1.heap.size, 0, none⟩ (.slice ax nx capx)).setCell ⟨w1.heap.size, 1, none⟩ (.int .i64 px)).setCell ⟨w1.heap.size, 2, none⟩ (.int .i64 jx)) from ((T3.out.other hFB hGB hDB qf qg _ _).other hFB hGB hDB qf qg _ _).other hFB hGB hDB qf qg _ _)
        have HX8 := Lib.hid (show Cur3 (((x3.setCell ⟨w1.heap.size, 0, none⟩ (.slice ax nx capx)).setCell ⟨w1.heap.size, 1, none⟩ (.int .i64 px)).setCell ⟨w1.heap.size, 2, none⟩ (.int .i64 jx)) w1.heap.size (.slice ax nx capx) (.int .i64 px) (.int .i64 jx) ∧ RowZ (((x3.setCell ⟨w1.heap.size, 0, none⟩ (.slice ax nx capx)).setCell ⟨w1.heap.size, 1, none⟩ (.int .i64 px)).setCell ⟨w1.heap.size, 2, none⟩ (.int .i64 jx)) ax nx capx zx from ⟨NBrs.out.set _ _ _, ((RX.out.store qx _ _).store qx _ _).store qx _ _⟩)
        have HDE := Lib.hid HDD.out.1
        obtain ⟨n0, n1, n2, n3, n4, n5⟩ := NBrs.out
        clear qx qf qg le1 le2 lf lg ld sw h7
        refine wpAnyK_step (i := 12) rfl (by kernel_rfl) (fun K hK => ?_)
        go_simp
        refine hK.out _ _ (mss_of HP.out) (fun hHeld9 => ?_)
        clear hK K hHeld3
        try simp only [Act.put, List.getElem_toArray, List.getElem_cons_zero, List.getElem_cons_succ, List.setIfInBounds_toArray, List.set_cons_zero, List.set_cons_succ]
        refine wpAnyK_done (by kernel_rfl) ?_
        simp only [List.drop_succ_cons, List.drop_zero]
        clear hHeld9
        go_wp2_with fail
        go_meet
        exact ⟨w1.heap.size, ax, nx, capx, zx, px, jx, cx, d, rfl, rfl, HDE, MX, HX8, HP⟩
  case rest =>
  obtain ⟨M, al, nl, capl, zl, pl, jl, cl, d, rfl, rfl, HDM, ML, XL, Q2⟩ := hcut
  obtain ⟨w2, rfl⟩ : ∃ u : World, u = wc := ⟨_, rfl⟩
  clear Q1
  have HBW := Lib.hid Q2.out.q.below
  obtain ⟨n1, hn1, hdl, hk1, hn9⟩ := DD.out
  cases i1 with
  | true =>
    obtain ⟨rfl, rfl⟩ := hdl.inf
    obtain rfl : m1 = 0 := by omega
    rcases ML.out with ⟨rfl, q, rfl, hf⟩ | rfl
    · have HA := Lib.hid (show (false = true ↔ ∀ t, ole (eC zl q jl t) (eC zg pg jg t)) from ⟨fun h => (by cases h), fun h => absurd (fun t => (by have := h t; rw [hf.2.1 t] at this; exact this)) (shift_no hdl d)⟩)
      have GL := Lib.hid hf.1
      obtain ⟨c0, c1, c2, c3, c4, c5⟩ := XL.out.1
      obtain ⟨g0, g1, g2, g3, g4, g5⟩ := Q2.out.q.g.box
      obtain ⟨e0, e1, e2, e3, e4, e5⟩ := Q2.out.d
      clear hn1 hdl hk1 hn9 hf
      go_wp2_with fail
      clear c0 c1 c2 c3 c4 c5 g0 g1 g2 g3 g4 g5 e0 e1 e2 e3 e4 e5
      with_reducible refine (ratMost_dec al nl capl zl q jl GL.out ag ng capg zg pg jg OG.out.1 false HA.out _ XL.out.2 Q2.out.q.g.row).mono ?_
      rintro e v3 ⟨rfl, hb⟩
      have HBY := Lib.hid (HBW.out.trans (hb.mono HBW.out.size))
      clear hb
      go_wp2_with fail
      refine (awake10 _).mono ?_
      rintro e y9 ⟨rfl, hb⟩
      have HBZ := Lib.hid (HBY.out.trans (hb.mono HBY.out.size))
      clear hb
      go_wp2_with fail
      go_ret
      exact ⟨rfl, HBZ.out⟩
    · obtain ⟨e0, e1, e2, e3, e4, e5⟩ := Q2.out.d
      clear hn1 hdl hk1 hn9
      go_wp2_with fail
      refine (awake10 _).mono ?_
      rintro e y9 ⟨rfl, hb⟩
      have HBZ := Lib.hid (HBW.out.trans (hb.mono HBW.out.size))
      clear hb
      go_wp2_with fail
      go_ret
      exact ⟨rfl, HBZ.out⟩
  | false =>
    by_cases h3 : (300 : Int) < m1
    · have t1 : decide ((300 : Int) < m1) = true := decide_eq_true h3
      obtain ⟨e0, e1, e2, e3, e4, e5⟩ := Q2.out.d
      clear hn1 hdl hk1 hn9
      go_wp2_with fail
      refine (awake10 _).mono ?_
      rintro e y9 ⟨rfl, hb⟩
      have HBZ := Lib.hid (HBW.out.trans (hb.mono HBW.out.size))
      clear hb
      go_wp2_with fail
      go_ret
      exact ⟨rfl, HBZ.out⟩
    · have t1 : decide ((300 : Int) < m1) = false := decide_eq_false h3
      have hn300 : n1 ≤ 300 := by omega
      obtain ⟨hs1, hs2⟩ := shiftO_at hdl
      have HS := Lib.hid (show n1 ≤ d → ∀ t, ole (laterO d (eC zf pf jf) t) (eC zg pg jg t) from fun h => shift_yes (up_eC OG.out.1) (nn_eC OG.out.1) hdl h)
      obtain ⟨x, hx⟩ : ∃ x, atC zf pf jf k1 = x := ⟨_, rfl⟩
      obtain ⟨y, hy⟩ : ∃ y, atC zg pg jg (k1 + n1) = y := ⟨_, rfl⟩
      have hxy : x ≤ y := by rw [at_ole OF.out.1 OG.out.1 (by omega) (by omega), hx, hy] at hs1; exact hs1
      obtain ⟨z, hz⟩ : ∃ z, atC zg pg jg (k1 + (n1 - 1)) = z := ⟨_, rfl⟩
      have hxz : 1 ≤ n1 → z < x := fun h => by have := hs2 h; rw [at_ole OF.out.1 OG.out.1 (by omega) (by omega), hx, hz] at this; omega
      have HV := Lib.hid (And.intro hx (And.intro hy hz))
      clear hs1 hs2 hx hy hz hdl
      -- behind AtMost: the region with the values
      obtain ⟨e0, e1, e2, e3, e4, e5⟩ := Q2.out.d
      go_upto_region 11 with fail
      clear e0 e1 e2 e3 e4 e5
      go_cut [69] (fun s69 wx => s69 = .bool false ∧ Hid (MS W W.heap.size F G D af nf capf zf pf jf ag ng capg zg pg jg false m1 k1 ra rn rc wx))
      case first =>
        rcases ML.out with ⟨rfl, q, rfl, hf⟩ | rfl
        · have HA := Lib.hid (show ∀ t, ole (eC zl q jl t) (eC zg pg jg t) from fun t => by rw [hf.2.1 t]; exact HS.out (by have := HDM.out (by omega); omega) t)
          have GL := Lib.hid hf.1
          obtain ⟨c0, c1, c2, c3, c4, c5⟩ := XL.out.1
          obtain ⟨g0, g1, g2, g3, g4, g5⟩ := Q2.out.q.g.box
          clear hf
          go_wp2_with fail
          clear c0 c1 c2 c3 c4 c5 g0 g1 g2 g3 g4 g5
          with_reducible refine (ratMost_dec al nl capl zl q jl GL.out ag ng capg zg pg jg OG.out.1 true ⟨fun _ => HA.out, fun _ => rfl⟩ _ XL.out.2 Q2.out.q.g.row).mono ?_
          rintro e v3 ⟨rfl, hb⟩
          have Q3 := Lib.hid (Q2.out.call hb)
          clear hb
          go_wp2_with fail
          go_meet
          exact ⟨rfl, Q3⟩
        · go_wp2_with fail
          go_meet
          exact ⟨rfl, Q2⟩
      case rest =>
      obtain ⟨w3, rfl⟩ : ∃ u : World, u = wc := ⟨_, rfl⟩
      obtain ⟨rfl, hcut⟩ := hcut
      have HB3 := Lib.hid hcut.out.q.below
      have Q3 := Lib.hid (hcut.out.call (Below.refl _ _).drew)
      clear hcut Q2 XL ML HBW
      have d1 : decide (y < x) = false := decide_eq_false (by omega)
      have hk1' : (k1 : Int) ≤ 1000 := by omega
      obtain ⟨s1, hs1⟩ : ∃ s1 : Nat, k1 + n1 = s1 := ⟨_, rfl⟩
      have hs1i : (k1 : Int) + m1 = (s1 : Int) := by omega
      have hs1w : IntKind.i64.wrap (s1 : Int) = (s1 : Int) := IntWalk.i64_in _ ⟨by omega, by omega⟩
      rw [hs1] at HV
      by_cases h0 : 0 < m1
      · obtain ⟨s2, hs2⟩ : ∃ s2 : Nat, k1 + (n1 - 1) = s2 := ⟨_, rfl⟩
        have hs2i : (s1 : Int) - 1 = (s2 : Int) := by omega
        have hs2w : IntKind.i64.wrap (s2 : Int) = (s2 : Int) := IntWalk.i64_in _ ⟨by omega, by omega⟩
        rw [hs2] at HV
        have hzx := hxz (by omega)
        have d2 : decide (0 < m1) = true := decide_eq_true h0
        have d3 : decide (x ≤ z) = false := decide_eq_false (by omega)
        have HS12 := Lib.hid (show k1 ≤ 1000 ∧ s1 ≤ 1300 ∧ s2 ≤ 1300 by omega)
        clear hs1 hs2 hxz hzx hn1 h3 hn300 hxy
        go_upto_region 13 with fail
        refine wp_region_keeps (fun u => MSS W W.heap.size F G D af nf capf zf pf jf ag ng capg zg pg jg false m1 k1 ra rn rc u) 31 1 (by kernel_rfl) (by kernel_rfl) (mss_of Q3.out) (fun hHeld0 => ?_)
        refine wpAnyK_take (i := 0) (v := ?_) rfl (by kernel_rfl) (fun _ _ _ h => h) (Or.inl ⟨by rfl, ?_⟩) (by assumption) ?_
        rotate_left
        · (intro w hSw; (try dsimp only at hSw); go_simp; try with_reducible rfl)
        try simp only [Act.put, List.getElem_toArray, List.getElem_cons_zero, List.getElem_cons_succ, List.setIfInBounds_toArray, List.set_cons_zero, List.set_cons_succ]
        refine wpAnyK_take (i := 1) (v := ?_) rfl (by kernel_rfl) (fun _ _ _ h => h) (Or.inl ⟨by rfl, ?_⟩) (by assumption) ?_
        rotate_left
        · (intro w hSw; (try dsimp only at hSw); go_simp; try with_reducible rfl)
        try simp only [Act.put, List.getElem_toArray, List.getElem_cons_zero, List.getElem_cons_succ, List.setIfInBounds_toArray, List.set_cons_zero, List.set_cons_succ]
        refine wpAnyK_take (i := 2) (v := ?_) rfl (by kernel_rfl) (fun _ _ _ h => h) (Or.inl ⟨by rfl, ?_⟩) (by assumption) ?_
        rotate_left
        · (intro w hSw; (try dsimp only at hSw); go_simp; try with_reducible rfl)
        try simp only [Act.put, List.getElem_toArray, List.getElem_cons_zero, List.getElem_cons_succ, List.setIfInBounds_toArray, List.set_cons_zero, List.set_cons_succ]
        refine wpAnyK_take (i := 4) (v := ?_) rfl (by kernel_rfl) (fun _ _ _ h => h) (Or.inl ⟨by rfl, ?_⟩) (by assumption) ?_
        rotate_left
        · (intro w hSw; (try dsimp only at hSw); go_simp; try with_reducible rfl)
        try simp only [Act.put, List.getElem_toArray, List.getElem_cons_zero, List.getElem_cons_succ, List.setIfInBounds_toArray, List.set_cons_zero, List.set_cons_succ]
        refine wpAnyK_take (i := 5) (v := ?_) rfl (by kernel_rfl) (fun _ _ _ h => h) (Or.inl ⟨by rfl, ?_⟩) (by assumption) ?_
        rotate_left
        · (intro w hSw; (try dsimp only at hSw); go_simp; try with_reducible rfl)
        try simp only [Act.put, List.getElem_toArray, List.getElem_cons_zero, List.getElem_cons_succ, List.setIfInBounds_toArray, List.set_cons_zero, List.set_cons_succ]
        refine wpAnyK_take (i := 6) (v := ?_) rfl (by kernel_rfl) (fun _ _ _ h => h) (Or.inl ⟨by rfl, ?_⟩) (by assumption) ?_
        rotate_left
        · (intro w hSw; (try dsimp only at hSw); go_simp; try with_reducible rfl)
        try simp only [Act.put, List.getElem_toArray, List.getElem_cons_zero, List.getElem_cons_succ, List.setIfInBounds_toArray, List.set_cons_zero, List.set_cons_succ]
        refine wpAnyK_take (i := 7) (v := ?_) rfl (by kernel_rfl) (fun _ _ _ h => h) (Or.inl ⟨by rfl, ?_⟩) (by assumption) ?_
        rotate_left
        · (intro w hSw; (try dsimp only at hSw); go_simp; try with_reducible rfl)
        try simp only [Act.put, List.getElem_toArray, List.getElem_cons_zero, List.getElem_cons_succ, List.setIfInBounds_toArray, List.set_cons_zero, List.set_cons_succ]
        refine wpAnyK_take (i := 8) (v := ?_) rfl (by kernel_rfl) (fun _ _ _ h => h) (Or.inl ⟨by rfl, ?_⟩) (by assumption) ?_
        rotate_left
        · (intro w hSw; (try dsimp only at hSw); go_simp; try with_reducible rfl)
        try simp only [Act.put, List.getElem_toArray, List.getElem_cons_zero, List.getElem_cons_succ, List.setIfInBounds_toArray, List.set_cons_zero, List.set_cons_succ]
        refine wpAnyK_take (i := 9) (v := ?_) rfl (by kernel_rfl) (fun _ _ _ h => h) (Or.inl ⟨by rfl, ?_⟩) (by assumption) ?_
        rotate_left
        · (intro w hSw; (try dsimp only at hSw); go_simp; try with_reducible rfl)
        try simp only [Act.put, List.getElem_toArray, List.getElem_cons_zero, List.getElem_cons_succ, List.setIfInBounds_toArray, List.set_cons_zero, List.set_cons_succ]
        refine wpAnyK_step (i := 3) rfl (by kernel_rfl) (fun K hK => ?_)
        go_simp
        with_reducible refine (rat_at af nf capf zf pf jf OF.out.1 (k1 : Int) k1 rfl (by have := HS12.out; omega) x HV.out.1 _ Q3.out.q.f.row).mono ?_
        rintro e x4 ⟨rfl, hb⟩
        have Q4 := Lib.hid (Q3.out.call hb)
        clear hb
        refine hK.out _ _ (mss_of Q4.out) (fun hHeld1 => ?_)
        clear hK K hHeld0
        try simp only [Act.put, List.getElem_toArray, List.getElem_cons_zero, List.getElem_cons_succ, List.setIfInBounds_toArray, List.set_cons_zero, List.set_cons_succ]
        refine wpAnyK_step (i := 10) rfl (by kernel_rfl) (fun K hK => ?_)
        go_simp
        with_reducible refine (rat_at ag ng capg zg pg jg OG.out.1 (s1 : Int) s1 rfl (by have := HS12.out; omega) y HV.out.2.1 _ Q4.out.q.g.row).mono ?_
        rintro e x5 ⟨rfl, hb⟩
        have Q5 := Lib.hid (Q4.out.call hb)
        clear hb
        refine hK.out _ _ (mss_of Q5.out) (fun hHeld2 => ?_)
        clear hK K hHeld1
        try simp only [Act.put, List.getElem_toArray, List.getElem_cons_zero, List.getElem_cons_succ, List.setIfInBounds_toArray, List.set_cons_zero, List.set_cons_succ]
        refine wpAnyK_take (i := 11) (v := ?_) rfl (by kernel_rfl) (fun _ _ _ h => h) (Or.inl ⟨by rfl, ?_⟩) (by assumption) ?_
        rotate_left
        · (intro w hSw; (try dsimp only at hSw); go_simp; try with_reducible rfl)
        try simp only [Act.put, List.getElem_toArray, List.getElem_cons_zero, List.getElem_cons_succ, List.setIfInBounds_toArray, List.set_cons_zero, List.set_cons_succ]
        refine wpAnyK_take (i := 12) (v := ?_) rfl (by kernel_rfl) (fun _ _ _ h => h) (Or.inl ⟨by rfl, ?_⟩) (by assumption) ?_
        rotate_left
        · (intro w hSw; (try dsimp only at hSw); go_simp; try with_reducible rfl)
        try simp only [Act.put, List.getElem_toArray, List.getElem_cons_zero, List.getElem_cons_succ, List.setIfInBounds_toArray, List.set_cons_zero, List.set_cons_succ]
        refine wpAnyK_take (i := 13) (v := ?_) rfl (by kernel_rfl) (fun _ _ _ h => h) (Or.inl ⟨by rfl, ?_⟩) (by assumption) ?_
        rotate_left
        · (intro w hSw; (try dsimp only at hSw); go_simp; try with_reducible rfl)
        try simp only [Act.put, List.getElem_toArray, List.getElem_cons_zero, List.getElem_cons_succ, List.setIfInBounds_toArray, List.set_cons_zero, List.set_cons_succ]
        refine wpAnyK_take (i := 14) (v := ?_) rfl (by kernel_rfl) (fun _ _ _ h => h) (Or.inl ⟨by rfl, ?_⟩) (by assumption) ?_
        rotate_left
        · (intro w hSw; (try dsimp only at hSw); go_simp; try with_reducible rfl)
        try simp only [Act.put, List.getElem_toArray, List.getElem_cons_zero, List.getElem_cons_succ, List.setIfInBounds_toArray, List.set_cons_zero, List.set_cons_succ]
        refine wpAnyK_take (i := 15) (v := ?_) rfl (by kernel_rfl) (fun _ _ _ h => h) (Or.inl ⟨by rfl, ?_⟩) (by assumption) ?_
        rotate_left
        · (intro w hSw; (try dsimp only at hSw); go_simp; try with_reducible rfl)
        try simp only [Act.put, List.getElem_toArray, List.getElem_cons_zero, List.getElem_cons_succ, List.setIfInBounds_toArray, List.set_cons_zero, List.set_cons_succ]
        refine wpAnyK_take (i := 16) (v := ?_) rfl (by kernel_rfl) (fun _ _ _ h => h) (Or.inl ⟨by rfl, ?_⟩) (by assumption) ?_
        rotate_left
        · (intro w hSw; (try dsimp only at hSw); go_simp; try with_reducible rfl)
        try simp only [Act.put, List.getElem_toArray, List.getElem_cons_zero, List.getElem_cons_succ, List.setIfInBounds_toArray, List.set_cons_zero, List.set_cons_succ]
        refine wpAnyK_take (i := 17) (v := ?_) rfl (by kernel_rfl) (fun _ _ _ h => h) (Or.inl ⟨by rfl, ?_⟩) (by assumption) ?_
        rotate_left
        · (intro w hSw; (try dsimp only at hSw); go_simp; try with_reducible rfl)
        try simp only [Act.put, List.getElem_toArray, List.getElem_cons_zero, List.getElem_cons_succ, List.setIfInBounds_toArray, List.set_cons_zero, List.set_cons_succ]
        refine wpAnyK_take (i := 18) (v := ?_) rfl (by kernel_rfl) (fun _ _ _ h => h) (Or.inl ⟨by rfl, ?_⟩) (by assumption) ?_
        rotate_left
        · (intro w hSw; (try dsimp only at hSw); go_simp; try with_reducible rfl)
        try simp only [Act.put, List.getElem_toArray, List.getElem_cons_zero, List.getElem_cons_succ, List.setIfInBounds_toArray, List.set_cons_zero, List.set_cons_succ]
        refine wpAnyK_take (i := 19) (v := ?_) rfl (by kernel_rfl) (fun _ _ _ h => h) (Or.inl ⟨by rfl, ?_⟩) (by assumption) ?_
        rotate_left
        · (intro w hSw; (try dsimp only at hSw); go_simp; try with_reducible rfl)
        try simp only [Act.put, List.getElem_toArray, List.getElem_cons_zero, List.getElem_cons_succ, List.setIfInBounds_toArray, List.set_cons_zero, List.set_cons_succ]
        refine wpAnyK_take (i := 21) (v := ?_) rfl (by kernel_rfl) (fun _ _ _ h => h) (Or.inl ⟨by rfl, ?_⟩) (by assumption) ?_
        rotate_left
        · (intro w hSw; (try dsimp only at hSw); go_simp; try with_reducible rfl)
        try simp only [Act.put, List.getElem_toArray, List.getElem_cons_zero, List.getElem_cons_succ, List.setIfInBounds_toArray, List.set_cons_zero, List.set_cons_succ]
        refine wpAnyK_take (i := 22) (v := ?_) rfl (by kernel_rfl) (fun _ _ _ h => h) (Or.inl ⟨by rfl, ?_⟩) (by assumption) ?_
        rotate_left
        · (intro w hSw; (try dsimp only at hSw); go_simp; try with_reducible rfl)
        try simp only [Act.put, List.getElem_toArray, List.getElem_cons_zero, List.getElem_cons_succ, List.setIfInBounds_toArray, List.set_cons_zero, List.set_cons_succ]
        refine wpAnyK_take (i := 23) (v := ?_) rfl (by kernel_rfl) (fun _ _ _ h => h) (Or.inl ⟨by rfl, ?_⟩) (by assumption) ?_
        rotate_left
        · (intro w hSw; (try dsimp only at hSw); go_simp; try with_reducible rfl)
        try simp only [Act.put, List.getElem_toArray, List.getElem_cons_zero, List.getElem_cons_succ, List.setIfInBounds_toArray, List.set_cons_zero, List.set_cons_succ]
        refine wpAnyK_take (i := 24) (v := ?_) rfl (by kernel_rfl) (fun _ _ _ h => h) (Or.inl ⟨by rfl, ?_⟩) (by assumption) ?_
        rotate_left
        · (intro w hSw; (try dsimp only at hSw); go_simp; try with_reducible rfl)
        try simp only [Act.put, List.getElem_toArray, List.getElem_cons_zero, List.getElem_cons_succ, List.setIfInBounds_toArray, List.set_cons_zero, List.set_cons_succ]
        refine wpAnyK_take (i := 25) (v := ?_) rfl (by kernel_rfl) (fun _ _ _ h => h) (Or.inl ⟨by rfl, ?_⟩) (by assumption) ?_
        rotate_left
        · (intro w hSw; (try dsimp only at hSw); go_simp; try with_reducible rfl)
        try simp only [Act.put, List.getElem_toArray, List.getElem_cons_zero, List.getElem_cons_succ, List.setIfInBounds_toArray, List.set_cons_zero, List.set_cons_succ]
        refine wpAnyK_take (i := 26) (v := ?_) rfl (by kernel_rfl) (fun _ _ _ h => h) (Or.inl ⟨by rfl, ?_⟩) (by assumption) ?_
        rotate_left
        · (intro w hSw; (try dsimp only at hSw); go_simp; try with_reducible rfl)
        try simp only [Act.put, List.getElem_toArray, List.getElem_cons_zero, List.getElem_cons_succ, List.setIfInBounds_toArray, List.set_cons_zero, List.set_cons_succ]
        refine wpAnyK_take (i := 27) (v := ?_) rfl (by kernel_rfl) (fun _ _ _ h => h) (Or.inl ⟨by rfl, ?_⟩) (by assumption) ?_
        rotate_left
        · (intro w hSw; (try dsimp only at hSw); go_simp; try with_reducible rfl)
        try simp only [Act.put, List.getElem_toArray, List.getElem_cons_zero, List.getElem_cons_succ, List.setIfInBounds_toArray, List.set_cons_zero, List.set_cons_succ]
        refine wpAnyK_step (i := 20) rfl (by kernel_rfl) (fun K hK => ?_)
        go_simp
        with_reducible refine (rat_at af nf capf zf pf jf OF.out.1 (k1 : Int) k1 rfl (by have := HS12.out; omega) x HV.out.1 _ Q5.out.q.f.row).mono ?_
        rintro e x6 ⟨rfl, hb⟩
        have Q6 := Lib.hid (Q5.out.call hb)
        clear hb
        refine hK.out _ _ (mss_of Q6.out) (fun hHeld3 => ?_)
        clear hK K hHeld2
        try simp only [Act.put, List.getElem_toArray, List.getElem_cons_zero, List.getElem_cons_succ, List.setIfInBounds_toArray, List.set_cons_zero, List.set_cons_succ]
        refine wpAnyK_step (i := 28) rfl (by kernel_rfl) (fun K hK => ?_)
        go_simp
        with_reducible refine (rat_at ag ng capg zg pg jg OG.out.1 (s2 : Int) s2 rfl (by have := HS12.out; omega) z HV.out.2.2 _ Q6.out.q.g.row).mono ?_
        rintro e x7 ⟨rfl, hb⟩
        have Q7 := Lib.hid (Q6.out.call hb)
        clear hb
        refine hK.out _ _ (mss_of Q7.out) (fun hHeld4 => ?_)
        clear hK K hHeld3
        try simp only [Act.put, List.getElem_toArray, List.getElem_cons_zero, List.getElem_cons_succ, List.setIfInBounds_toArray, List.set_cons_zero, List.set_cons_succ]
        refine wpAnyK_take (i := 29) (v := ?_) rfl (by kernel_rfl) (fun _ _ _ h => h) (Or.inl ⟨by rfl, ?_⟩) (by assumption) ?_
        rotate_left
        · (intro w hSw; (try dsimp only at hSw); go_simp; try with_reducible rfl)
        try simp only [Act.put, List.getElem_toArray, List.getElem_cons_zero, List.getElem_cons_succ, List.setIfInBounds_toArray, List.set_cons_zero, List.set_cons_succ]
        refine wpAnyK_take (i := 30) (v := ?_) rfl (by kernel_rfl) (fun _ _ _ h => h) (Or.inl ⟨by rfl, ?_⟩) (by assumption) ?_
        rotate_left
        · (intro w hSw; (try dsimp only at hSw); go_simp; try with_reducible rfl)
        try simp only [Act.put, List.getElem_toArray, List.getElem_cons_zero, List.getElem_cons_succ, List.setIfInBounds_toArray, List.set_cons_zero, List.set_cons_succ]
        refine wpAnyK_done (by kernel_rfl) ?_
        simp only [List.drop_succ_cons, List.drop_zero]
        clear hHeld4
        have HBY := Lib.hid Q7.out.q.below
        go_wp2_with fail
        refine (awake10 _).mono ?_
        rintro e y9 ⟨rfl, hb⟩
        have HBZ := Lib.hid (HBY.out.trans (hb.mono HBY.out.size))
        clear hb
        go_wp2_with fail
        go_ret
        exact ⟨rfl, HBZ.out⟩
      · have d2 : decide (0 < m1) = false := decide_eq_false h0
        have HS12 := Lib.hid (show k1 ≤ 1000 ∧ s1 ≤ 1300 by omega)
        clear hs1 hxz hn1 h3 hn300 hxy
        go_upto_region 13 with fail
        refine wp_region_keeps (fun u => MSS W W.heap.size F G D af nf capf zf pf jf ag ng capg zg pg jg false m1 k1 ra rn rc u) 31 1 (by kernel_rfl) (by kernel_rfl) (mss_of Q3.out) (fun hHeld0 => ?_)
        refine wpAnyK_take (i := 0) (v := ?_) rfl (by kernel_rfl) (fun _ _ _ h => h) (Or.inl ⟨by rfl, ?_⟩) (by assumption) ?_
        rotate_left
        · (intro w hSw; (try dsimp only at hSw); go_simp; try with_reducible rfl)
        try simp only [Act.put, List.getElem_toArray, List.getElem_cons_zero, List.getElem_cons_succ, List.setIfInBounds_toArray, List.set_cons_zero, List.set_cons_succ]
        refine wpAnyK_take (i := 1) (v := ?_) rfl (by kernel_rfl) (fun _ _ _ h => h) (Or.inl ⟨by rfl, ?_⟩) (by assumption) ?_
        rotate_left
        · (intro w hSw; (try dsimp only at hSw); go_simp; try with_reducible rfl)
        try simp only [Act.put, List.getElem_toArray, List.getElem_cons_zero, List.getElem_cons_succ, List.setIfInBounds_toArray, List.set_cons_zero, List.set_cons_succ]
        refine wpAnyK_take (i := 2) (v := ?_) rfl (by kernel_rfl) (fun _ _ _ h => h) (Or.inl ⟨by rfl, ?_⟩) (by assumption) ?_
        rotate_left
        · (intro w hSw; (try dsimp only at hSw); go_simp; try with_reducible rfl)
        try simp only [Act.put, List.getElem_toArray, List.getElem_cons_zero, List.getElem_cons_succ, List.setIfInBounds_toArray, List.set_cons_zero, List.set_cons_succ]
        refine wpAnyK_take (i := 4) (v := ?_) rfl (by kernel_rfl) (fun _ _ _ h => h) (Or.inl ⟨by rfl, ?_⟩) (by assumption) ?_
        rotate_left
        · (intro w hSw; (try dsimp only at hSw); go_simp; try with_reducible rfl)
        try simp only [Act.put, List.getElem_toArray, List.getElem_cons_zero, List.getElem_cons_succ, List.setIfInBounds_toArray, List.set_cons_zero, List.set_cons_succ]
        refine wpAnyK_take (i := 5) (v := ?_) rfl (by kernel_rfl) (fun _ _ _ h => h) (Or.inl ⟨by rfl, ?_⟩) (by assumption) ?_
        rotate_left
        · (intro w hSw; (try dsimp only at hSw); go_simp; try with_reducible rfl)
        try simp only [Act.put, List.getElem_toArray, List.getElem_cons_zero, List.getElem_cons_succ, List.setIfInBounds_toArray, List.set_cons_zero, List.set_cons_succ]
        refine wpAnyK_take (i := 6) (v := ?_) rfl (by kernel_rfl) (fun _ _ _ h => h) (Or.inl ⟨by rfl, ?_⟩) (by assumption) ?_
        rotate_left
        · (intro w hSw; (try dsimp only at hSw); go_simp; try with_reducible rfl)
        try simp only [Act.put, List.getElem_toArray, List.getElem_cons_zero, List.getElem_cons_succ, List.setIfInBounds_toArray, List.set_cons_zero, List.set_cons_succ]
        refine wpAnyK_take (i := 7) (v := ?_) rfl (by kernel_rfl) (fun _ _ _ h => h) (Or.inl ⟨by rfl, ?_⟩) (by assumption) ?_
        rotate_left
        · (intro w hSw; (try dsimp only at hSw); go_simp; try with_reducible rfl)
        try simp only [Act.put, List.getElem_toArray, List.getElem_cons_zero, List.getElem_cons_succ, List.setIfInBounds_toArray, List.set_cons_zero, List.set_cons_succ]
        refine wpAnyK_take (i := 8) (v := ?_) rfl (by kernel_rfl) (fun _ _ _ h => h) (Or.inl ⟨by rfl, ?_⟩) (by assumption) ?_
        rotate_left
        · (intro w hSw; (try dsimp only at hSw); go_simp; try with_reducible rfl)
        try simp only [Act.put, List.getElem_toArray, List.getElem_cons_zero, List.getElem_cons_succ, List.setIfInBounds_toArray, List.set_cons_zero, List.set_cons_succ]
        refine wpAnyK_take (i := 9) (v := ?_) rfl (by kernel_rfl) (fun _ _ _ h => h) (Or.inl ⟨by rfl, ?_⟩) (by assumption) ?_
        rotate_left
        · (intro w hSw; (try dsimp only at hSw); go_simp; try with_reducible rfl)
        try simp only [Act.put, List.getElem_toArray, List.getElem_cons_zero, List.getElem_cons_succ, List.setIfInBounds_toArray, List.set_cons_zero, List.set_cons_succ]
        refine wpAnyK_step (i := 3) rfl (by kernel_rfl) (fun K hK => ?_)
        go_simp
        with_reducible refine (rat_at af nf capf zf pf jf OF.out.1 (k1 : Int) k1 rfl (by have := HS12.out; omega) x HV.out.1 _ Q3.out.q.f.row).mono ?_
        rintro e x4 ⟨rfl, hb⟩
        have Q4 := Lib.hid (Q3.out.call hb)
        clear hb
        refine hK.out _ _ (mss_of Q4.out) (fun hHeld1 => ?_)
        clear hK K hHeld0
        try simp only [Act.put, List.getElem_toArray, List.getElem_cons_zero, List.getElem_cons_succ, List.setIfInBounds_toArray, List.set_cons_zero, List.set_cons_succ]
        refine wpAnyK_step (i := 10) rfl (by kernel_rfl) (fun K hK => ?_)
        go_simp
        with_reducible refine (rat_at ag ng capg zg pg jg OG.out.1 (s1 : Int) s1 rfl (by have := HS12.out; omega) y HV.out.2.1 _ Q4.out.q.g.row).mono ?_
        rintro e x5 ⟨rfl, hb⟩
        have Q5 := Lib.hid (Q4.out.call hb)
        clear hb
        refine hK.out _ _ (mss_of Q5.out) (fun hHeld2 => ?_)
        clear hK K hHeld1
        try simp only [Act.put, List.getElem_toArray, List.getElem_cons_zero, List.getElem_cons_succ, List.setIfInBounds_toArray, List.set_cons_zero, List.set_cons_succ]
        refine wpAnyK_take (i := 11) (v := ?_) rfl (by kernel_rfl) (fun _ _ _ h => h) (Or.inl ⟨by rfl, ?_⟩) (by assumption) ?_
        rotate_left
        · (intro w hSw; (try dsimp only at hSw); go_simp; try with_reducible rfl)
        try simp only [Act.put, List.getElem_toArray, List.getElem_cons_zero, List.getElem_cons_succ, List.setIfInBounds_toArray, List.set_cons_zero, List.set_cons_succ]
        refine wpAnyK_take (i := 12) (v := ?_) rfl (by kernel_rfl) (fun _ _ _ h => h) (Or.inl ⟨by rfl, ?_⟩) (by assumption) ?_
        rotate_left
        · (intro w hSw; (try dsimp only at hSw); go_simp; try with_reducible rfl)
        try simp only [Act.put, List.getElem_toArray, List.getElem_cons_zero, List.getElem_cons_succ, List.setIfInBounds_toArray, List.set_cons_zero, List.set_cons_succ]
        refine wpAnyK_take (i := 13) (v := ?_) rfl (by kernel_rfl) (fun _ _ _ h => h) (Or.inl ⟨by rfl, ?_⟩) (by assumption) ?_
        rotate_left
        · (intro w hSw; (try dsimp only at hSw); go_simp; try with_reducible rfl)
        try simp only [Act.put, List.getElem_toArray, List.getElem_cons_zero, List.getElem_cons_succ, List.setIfInBounds_toArray, List.set_cons_zero, List.set_cons_succ]
        refine wpAnyK_take (i := 14) (v := ?_) rfl (by kernel_rfl) (fun _ _ _ h => h) (Or.inl ⟨by rfl, ?_⟩) (by assumption) ?_
        rotate_left
        · (intro w hSw; (try dsimp only at hSw); go_simp; try with_reducible rfl)
        try simp only [Act.put, List.getElem_toArray, List.getElem_cons_zero, List.getElem_cons_succ, List.setIfInBounds_toArray, List.set_cons_zero, List.set_cons_succ]
        refine wpAnyK_take (i := 15) (v := ?_) rfl (by kernel_rfl) (fun _ _ _ h => h) (Or.inl ⟨by rfl, ?_⟩) (by assumption) ?_
        rotate_left
        · (intro w hSw; (try dsimp only at hSw); go_simp; try with_reducible rfl)
        try simp only [Act.put, List.getElem_toArray, List.getElem_cons_zero, List.getElem_cons_succ, List.setIfInBounds_toArray, List.set_cons_zero, List.set_cons_succ]
        refine wpAnyK_take (i := 16) (v := ?_) rfl (by kernel_rfl) (fun _ _ _ h => h) (Or.inl ⟨by rfl, ?_⟩) (by assumption) ?_
        rotate_left
        · (intro w hSw; (try dsimp only at hSw); go_simp; try with_reducible rfl)
        try simp only [Act.put, List.getElem_toArray, List.getElem_cons_zero, List.getElem_cons_succ, List.setIfInBounds_toArray, List.set_cons_zero, List.set_cons_succ]
        refine wpAnyK_take (i := 17) (v := undef) rfl (by kernel_rfl) (fun _ _ _ h => h) (Or.inr ⟨by rfl, rfl⟩) (by assumption) ?_
        try simp only [Act.put, List.getElem_toArray, List.getElem_cons_zero, List.getElem_cons_succ, List.setIfInBounds_toArray, List.set_cons_zero, List.set_cons_succ]
        refine wpAnyK_take (i := 18) (v := undef) rfl (by kernel_rfl) (fun _ _ _ h => h) (Or.inr ⟨by rfl, rfl⟩) (by assumption) ?_
        try simp only [Act.put, List.getElem_toArray, List.getElem_cons_zero, List.getElem_cons_succ, List.setIfInBounds_toArray, List.set_cons_zero, List.set_cons_succ]
        refine wpAnyK_take (i := 19) (v := undef) rfl (by kernel_rfl) (fun _ _ _ h => h) (Or.inr ⟨by rfl, rfl⟩) (by assumption) ?_
        try simp only [Act.put, List.getElem_toArray, List.getElem_cons_zero, List.getElem_cons_succ, List.setIfInBounds_toArray, List.set_cons_zero, List.set_cons_succ]
        refine wpAnyK_take (i := 20) (v := undef) rfl (by kernel_rfl) (fun _ _ _ h => h) (Or.inr ⟨by rfl, rfl⟩) (by assumption) ?_
        try simp only [Act.put, List.getElem_toArray, List.getElem_cons_zero, List.getElem_cons_succ, List.setIfInBounds_toArray, List.set_cons_zero, List.set_cons_succ]
        refine wpAnyK_take (i := 21) (v := undef) rfl (by kernel_rfl) (fun _ _ _ h => h) (Or.inr ⟨by rfl, rfl⟩) (by assumption) ?_
        try simp only [Act.put, List.getElem_toArray, List.getElem_cons_zero, List.getElem_cons_succ, List.setIfInBounds_toArray, List.set_cons_zero, List.set_cons_succ]
        refine wpAnyK_take (i := 22) (v := undef) rfl (by kernel_rfl) (fun _ _ _ h => h) (Or.inr ⟨by rfl, rfl⟩) (by assumption) ?_
        try simp only [Act.put, List.getElem_toArray, List.getElem_cons_zero, List.getElem_cons_succ, List.setIfInBounds_toArray, List.set_cons_zero, List.set_cons_succ]
        refine wpAnyK_take (i := 23) (v := undef) rfl (by kernel_rfl) (fun _ _ _ h => h) (Or.inr ⟨by rfl, rfl⟩) (by assumption) ?_
        try simp only [Act.put, List.getElem_toArray, List.getElem_cons_zero, List.getElem_cons_succ, List.setIfInBounds_toArray, List.set_cons_zero, List.set_cons_succ]
        refine wpAnyK_take (i := 24) (v := undef) rfl (by kernel_rfl) (fun _ _ _ h => h) (Or.inr ⟨by rfl, rfl⟩) (by assumption) ?_
        try simp only [Act.put, List.getElem_toArray, List.getElem_cons_zero, List.getElem_cons_succ, List.setIfInBounds_toArray, List.set_cons_zero, List.set_cons_succ]
        refine wpAnyK_take (i := 25) (v := undef) rfl (by kernel_rfl) (fun _ _ _ h => h) (Or.inr ⟨by rfl, rfl⟩) (by assumption) ?_
        try simp only [Act.put, List.getElem_toArray, List.getElem_cons_zero, List.getElem_cons_succ, List.setIfInBounds_toArray, List.set_cons_zero, List.set_cons_succ]
        refine wpAnyK_take (i := 26) (v := undef) rfl (by kernel_rfl) (fun _ _ _ h => h) (Or.inr ⟨by rfl, rfl⟩) (by assumption) ?_
        try simp only [Act.put, List.getElem_toArray, List.getElem_cons_zero, List.getElem_cons_succ, List.setIfInBounds_toArray, List.set_cons_zero, List.set_cons_succ]
        refine wpAnyK_take (i := 27) (v := undef) rfl (by kernel_rfl) (fun _ _ _ h => h) (Or.inr ⟨by rfl, rfl⟩) (by assumption) ?_
        try simp only [Act.put, List.getElem_toArray, List.getElem_cons_zero, List.getElem_cons_succ, List.setIfInBounds_toArray, List.set_cons_zero, List.set_cons_succ]
        refine wpAnyK_take (i := 28) (v := undef) rfl (by kernel_rfl) (fun _ _ _ h => h) (Or.inr ⟨by rfl, rfl⟩) (by assumption) ?_
        try simp only [Act.put, List.getElem_toArray, List.getElem_cons_zero, List.getElem_cons_succ, List.setIfInBounds_toArray, List.set_cons_zero, List.set_cons_succ]
        refine wpAnyK_take (i := 29) (v := undef) rfl (by kernel_rfl) (fun _ _ _ h => h) (Or.inr ⟨by rfl, rfl⟩) (by assumption) ?_
        try simp only [Act.put, List.getElem_toArray, List.getElem_cons_zero, List.getElem_cons_succ, List.setIfInBounds_toArray, List.set_cons_zero, List.set_cons_succ]
        refine wpAnyK_take (i := 30) (v := ?_) rfl (by kernel_rfl) (fun _ _ _ h => h) (Or.inl ⟨by rfl, ?_⟩) (by assumption) ?_
        rotate_left
        · (intro w hSw; (try dsimp only at hSw); go_simp; try with_reducible rfl)
        try simp only [Act.put, List.getElem_toArray, List.getElem_cons_zero, List.getElem_cons_succ, List.setIfInBounds_toArray, List.set_cons_zero, List.set_cons_succ]
        refine wpAnyK_done (by kernel_rfl) ?_
        simp only [List.drop_succ_cons, List.drop_zero]
        clear hHeld2
        have HBY := Lib.hid Q5.out.q.below
        go_wp2_with fail
        refine (awake10 _).mono ?_
        rintro e y9 ⟨rfl, hb⟩
        have HBZ := Lib.hid (HBY.out.trans (hb.mono HBY.out.size))
        clear hb
        go_wp2_with fail
        go_ret
        exact ⟨rfl, HBZ.out⟩
end Go.Proofs.Ytjjaaknjdmijbaa
