/- The walk of RemainderLeast. By the verifier's side. -/
import Derived.Test.YtcbocglakielnaaRRemP
import Derived.Test.YtcbocglakielnaaRRemL
import Derived.Test.YtcbocglakielnaaRZero3
import Derived.Test.YtcbocglakielnaaRAdj
namespace Go.Proofs.Ytcbocglakielnaa
open Go.RowKit
set_option linter.unusedSimpArgs false
set_option linter.unusedVariables false

theorem low_of {zs : List Int} {p : Nat} {inc : Int} (g : Good zs p inc) (hf : ¬ InfC zs) (h0 : zs.getD 0 0 = 0) (h : Sm3 5 zs p inc) : LowC zs p inc :=
  ⟨g, hf, by rw [atC_lt (by have := g.p1; have := g.p3; omega), h0], (h.2 hf).1, (h.2 hf).2⟩
theorem LowC.day {zs : List Int} {p : Nat} {inc : Int} (h : LowC zs p inc) : Day (eC zs p inc) := by
  obtain ⟨c, hp⟩ := h.per
  exact day_some (F := atC zs p inc) (fun t _ => eC_fin h.fin p inc t) (hp.mul 2)
theorem rest_r_day {zf zg zr : List Int} {pf pg pr : Nat} {jf jg jr : Int} (hf : LowC zf pf jf) (hg : LowC zg pg jg) (hr : EForm zr pr jr (eRest zf pf jf zg pg jg)) : Day (eC zr pr jr) := by
  obtain ⟨s, c, _, _, hp⟩ := rest_soon hf hg hr
  refine day_some (F := atC zr pr jr) (fun t _ => ?_) (hp.mul 2)
  have := hr.2.1 t
  rw [rest_fin hf.fin hg.fin t] at this
  rw [this, (eC_bd hr.1 this).2.2]

set_option maxRecDepth 100000 in
set_option maxHeartbeats 6400000 in
theorem remainderLeast_walk (W : World) (a : Option Addr) (n cap : Nat) (hrow : RowAt W a n cap) :
    Calls Try.prog 4 #[.slice a n cap] W fun e w' => e = .returned (.bool true) ∧ Below W.heap.size W w' := by
  have HR := Lib.hid hrow
  clear hrow
  go_enter Try.func4, Try.ntmps4
  go_wp2_with fail
  refine (new_any a n cap _ HR.out).mono ?_
  rintro e u1 ⟨rfl, hb1, hz1, ra, rn, rc, hs1⟩
  have HB1 := Lib.hid hb1
  have HS1 := Lib.hid hs1
  have Z1 := Lib.hid hz1
  clear hb1 hz1 hs1
  go_wp2_with fail
  refine (zero_any3 5 (by omega) (by omega) _ ra rn rc _ HS1.out).mono ?_
  rintro e u2 ⟨af, nf, capf, zf, pf, jf, rfl, hs2, he2, hr2, hg2, hn2, h02, hsm2, hx2⟩
  have OF := Lib.hid (low_of hg2 hn2 h02 hsm2)
  have HS2 := Lib.hid hs2
  have R2 := Lib.hid hr2
  have X2 := Lib.hid (show ∀ x, af = some x → ¬ x.block = W.heap.size from fun x hx => by have := hx2 x hx; have := Z1.out; omega)
  have HB2 := Lib.hid (HB1.out.trans (he2.below (Nat.le_refl _) HB1.out.size))
  clear hs2 he2 hr2 hg2 hn2 h02 hsm2 hx2
  go_wp2_with fail
  refine (zero_any3 5 (by omega) (by omega) _ ra rn rc _ HS2.out).mono ?_
  rintro e u3 ⟨ag, ng, capg, zg, pg, jg, rfl, hs3, he3, hr3, hg3, hn3, h03, hsm3, hx3⟩
  have OG := Lib.hid (low_of hg3 hn3 h03 hsm3)
  have HS3 := Lib.hid hs3
  have R3 := Lib.hid (And.intro (R2.out.apart he3 X2.out) hr3)
  have h9 : W.heap.size < u2.heap.size := lt_of_cell (src_cell HS2.out)
  have X3 := Lib.hid (show ∀ x, ag = some x → ¬ x.block = W.heap.size from fun x hx => by have := hx3 x hx; omega)
  have HB3 := Lib.hid (HB2.out.trans (he3.below (Nat.le_refl _) HB2.out.size))
  clear hs3 he3 hr3 hg3 hn3 h03 hsm3 hx3 h9
  go_wp2_with fail
  refine (zero_any3 5 (by omega) (by omega) _ ra rn rc _ HS3.out).mono ?_
  rintro e u4 ⟨ah, nh, caph, zh, ph, jh, rfl, hs4, he4, hr4, hg4, hn4, h04, hsm4, hx4⟩
  have OH := Lib.hid (show Good zh ph jh ∧ Day (eC zh ph jh) ∧ ECan (eSum zh ph jh zg pg jg) from
    have l := low_of hg4 hn4 h04 hsm4
    ⟨l.good, l.day, low_sum l OG.out⟩)
  have HS4 := Lib.hid hs4
  have R4 := Lib.hid (And.intro (R3.out.1.apart he4 X2.out) (And.intro (R3.out.2.apart he4 X3.out) hr4))
  have h9 : W.heap.size < u3.heap.size := lt_of_cell (src_cell HS3.out)
  have X4 := Lib.hid (show ∀ x, ah = some x → ¬ x.block = W.heap.size from fun x hx => by have := hx4 x hx; omega)
  have HB4 := Lib.hid (HB3.out.trans (he4.below (Nat.le_refl _) HB3.out.size))
  clear hs4 he4 hr4 hg4 hn4 h04 hsm4 hx4 h9
  obtain ⟨w0, hw⟩ : ∃ w', ((u4.alloc (.cells #[.slice af nf capf, .int .i64 pf, .int .i64 jf] 24)).alloc (.cells #[.slice ag ng capg, .int .i64 pg, .int .i64 jg] 24)).alloc (.cells #[.slice ah nh caph, .int .i64 ph, .int .i64 jh] 24) = w' := ⟨_, rfl⟩
  have hz : Below u4.heap.size u4 w0 := by rw [← hw]; exact ((below_box _).alloc (by simp) _).alloc (by simp; omega) _
  have Xf := Lib.hid (show Bx w0 u4.heap.size af nf capf pf jf zf by rw [← hw]; exact ((Bx.new R4.out.1).under (below_box _)).under (below_box _))
  have Xg := Lib.hid (show Bx w0 (u4.heap.size + 1) ag ng capg pg jg zg by
    rw [← hw]
    have := (Bx.new (p := pg) (inc := jg) (R4.out.2.1.alloc (.cells #[.slice af nf capf, .int .i64 pf, .int .i64 jf] 24))).under (below_box (.cells #[.slice ah nh caph, .int .i64 ph, .int .i64 jh] 24))
    rwa [show (u4.alloc (.cells #[.slice af nf capf, .int .i64 pf, .int .i64 jf] 24)).heap.size = u4.heap.size + 1 by simp] at this)
  have Xh := Lib.hid (show Bx w0 (u4.heap.size + 1 + 1) ah nh caph ph jh zh by
    rw [← hw]
    have := Bx.new (p := ph) (inc := jh) ((R4.out.2.2.alloc (.cells #[.slice af nf capf, .int .i64 pf, .int .i64 jf] 24)).alloc (.cells #[.slice ag ng capg, .int .i64 pg, .int .i64 jg] 24))
    rwa [show ((u4.alloc (.cells #[.slice af nf capf, .int .i64 pf, .int .i64 jf] 24)).alloc (.cells #[.slice ag ng capg, .int .i64 pg, .int .i64 jg] 24)).heap.size = u4.heap.size + 1 + 1 by simp] at this)
  have SR := Lib.hid (src_under HS4.out hz)
  have HB5 := Lib.hid (HB4.out.trans (hz.mono HB4.out.size))
  have SW0 := Lib.hid (show u4.heap.size + 3 = w0.heap.size by rw [← hw]; simp)
  have SB := Lib.hid (lt_of_cell (src_cell HS4.out))
  have FF := Lib.hid (And.intro R4.out.1.far (And.intro R4.out.2.1.far (And.intro R4.out.2.2.far (src_far1 HS4.out))))
  have HW0 := Lib.hid hw
  clear hw hz HB1 HB2 HB3 HB4 HS1 HS2 HS3 HS4 R2 R3 R4
  go_upto_region 3 with fail
  try rw [HW0.out]
  clear HW0
  obtain ⟨F, hF⟩ : ∃ F, u4.heap.size = F := ⟨_, rfl⟩
  rw [hF] at Xf Xg Xh SW0 SB FF ⊢
  clear hF
  obtain ⟨G, hG⟩ : ∃ G, F + 1 = G := ⟨_, rfl⟩
  rw [hG] at Xg Xh ⊢
  obtain ⟨H, hH⟩ : ∃ H, G + 1 = H := ⟨_, rfl⟩
  rw [hH] at Xh ⊢
  have HGH := Lib.hid (And.intro hG hH)
  clear hG hH
  obtain ⟨c0, c1, c2, c3, c4, c5⟩ := Xf.out.box
  obtain ⟨d0, d1, d2, d3, d4, d5⟩ := Xg.out.box
  go_wp2_with fail
  clear c0 c1 c2 c3 c4 c5 d0 d1 d2 d3 d4 d5
  with_reducible refine (rest_day af nf capf zf pf jf OF.out.good ag ng capg zg pg jg OG.out.good OF.out.day OG.out.day _ Xf.out.row Xg.out.row).mono ?_
  rintro e v1 ⟨hb, ⟨ax, nx, capx, zx, px, jx, rfl, hr, hf, hx⟩ | ⟨rfl, hno⟩⟩
  rotate_left
  · have HBQ := Lib.hid (HB5.out.trans ((hb.trans ((below_box (.cells #[.slice none 0 0, .int .i64 0, .int .i64 0] 24)).mono hb.size)).mono HB5.out.size))
    clear hb hno
    go_wp2_with fail
    refine (awake6 _).mono ?_
    rintro e y9 ⟨rfl, hb⟩
    have HBZ := Lib.hid (HBQ.out.trans (hb.mono HBQ.out.size))
    clear hb
    go_wp2_with fail
    go_ret
    exact ⟨rfl, HBZ.out⟩
  obtain ⟨w1, hw⟩ : ∃ w', v1.alloc (.cells #[.slice ax nx capx, .int .i64 px, .int .i64 jx] 24) = w' := ⟨_, rfl⟩
  have hz : Below w0.heap.size w0 w1 := by rw [← hw]; exact hb.trans ((below_box _).mono hb.size)
  obtain ⟨X, hX⟩ : ∃ X, v1.heap.size = X := ⟨_, rfl⟩
  have hXs : w0.heap.size ≤ X := by rw [← hX]; exact hb.size
  have OX := Lib.hid (And.intro hf (rest_r_day OF.out OG.out hf))
  have J1 := Lib.hid (show AJ W W.heap.size F G H X af nf capf zf pf jf ag ng capg zg pg jg ah nh caph zh ph jh ax nx capx zx px jx ra rn rc w1 from ⟨Xf.out.under hz, Xg.out.under hz, Xh.out.under hz, by rw [← hw, ← hX]; exact Bx.new hr, src_under SR.out hz, HB5.out.trans (hz.mono HB5.out.size), Nat.le_refl _,
    by have := SB.out; have := SW0.out; have := HGH.out; omega,
    ⟨X2.out, X3.out, X4.out, fun y hy => by have := hx y hy; have := SB.out; have := SW0.out; omega⟩,
    ⟨fun y hy hn => by have := FF.out.1 y hy hn; have := HGH.out; omega, fun y hy hn => by have := FF.out.2.1 y hy hn; have := HGH.out; omega, fun y hy hn => by have := hx y hy; have := SW0.out; have := HGH.out; omega⟩,
    fun y hy hn => by have := FF.out.2.2.2 y hy hn; have := HGH.out; omega⟩)
  have HW1 := Lib.hid hw
  have HXE := Lib.hid hX
  clear hb hr hf hx hz hw hX hXs Xf Xg Xh SR HB5 SW0 SB FF HGH X2 X3 X4
  go_upto_region 4 with fail
  try rw [HW1.out]
  try rw [HXE.out]
  go_upto_region 6 with fail
  go_wp2_with fail
  refine (n_any 2 (by omega) (by omega) _ ra rn rc _ J1.out.src).mono ?_
  rintro e w2 ⟨r, hr, rfl, hs, he⟩
  have J2 := Lib.hid (J1.out.read hs he.apart)
  clear hs he hr J1 HW1 HXE
  go_upto_if 36 with fail
  go_cut [] (fun wx => ∃ (ah : Option Addr) (nh caph : Nat) (zh : List Int) (ph : Nat) (jh : Int), Hid (Good zh ph jh ∧ Day (eC zh ph jh) ∧ ECan (eSum zh ph jh zg pg jg)) ∧ Hid (AJ W W.heap.size F G H X af nf capf zf pf jf ag ng capg zg pg jg ah nh caph zh ph jh ax nx capx zx px jx ra rn rc wx))
  case first =>
    by_cases hr0 : r = 0
    rotate_left
    · have t0 : (r == 0) = false := by simpa using hr0
      clear hr0
      go_wp2_with fail
      go_meet
      exact ⟨ah, nh, caph, zh, ph, jh, OH, J2⟩
    have t0 : (r == 0) = true := by simpa using hr0
    clear hr0
    go_upto_region 7 with fail
    obtain ⟨w3, rfl⟩ : ∃ w' : World, w' = w2 := ⟨_, rfl⟩
    have J3 := J2
    have Q0 := Lib.hid (J3.out.call (Below.refl _ _).drew)
    go_cut [9, 10] (fun s9 s10 wx => ∃ (V : Nat) (av : Option Addr) (nv capv : Nat) (zv : List Int) (pv jv c : Int), s9 = .pointer (some ⟨V, 0, none⟩) ∧ s10 = .int .i64 c ∧ Hid ((∀ y, av = some y → ¬ y.block = H ∧ ¬ y.block = W.heap.size) ∧ W.heap.size < V) ∧ Hid (BxI wx V av nv capv pv jv zv) ∧ Hid (Raised zx px jx zv pv c jv) ∧ Hid (AJ W W.heap.size F G H X af nf capf zf pf jf ag ng capg zg pg jg ah nh caph zh ph jh ax nx capx zx px jx ra rn rc wx))
    case first =>
      have QF := Lib.hid (show (∀ y, af = some y → 1 ≤ nf → y.block < w3.heap.size) ∧ (∀ y, ag = some y → 1 ≤ ng → y.block < w3.heap.size) ∧ (∀ y, ah = some y → 1 ≤ nh → y.block < w3.heap.size) ∧ (∀ y, ax = some y → 1 ≤ nx → y.block < w3.heap.size) ∧ (∀ y, ra = some y → 1 ≤ rn → y.block < w3.heap.size) from ⟨J3.out.f.row.far, J3.out.g.row.far, J3.out.h.row.far, J3.out.x.row.far, src_far1 J3.out.src⟩)
      refine wp_region_keeps (fun u => AJS W W.heap.size F G H X af nf capf zf pf jf ag ng capg zg pg jg ah nh caph zh ph jh ax nx capx zx px jx ra rn rc u) 9 1 (by kernel_rfl) (by kernel_rfl) (ajs_of Q0.out) (fun hHeld0 => ?_)
      refine wpAnyK_take (i := 0) (v := ?_) rfl (by kernel_rfl) (fun _ _ _ h => h) (Or.inl ⟨by rfl, ?_⟩) (by assumption) ?_
      rotate_left
      · (intro w hSw; (try dsimp only at hSw); go_simp; try with_reducible rfl)
      try simp only [Act.put, List.getElem_toArray, List.getElem_cons_zero, List.getElem_cons_succ, List.setIfInBounds_toArray, List.set_cons_zero, List.set_cons_succ]
      refine wpAnyK_take (i := 1) (v := ?_) rfl (by kernel_rfl) (fun _ _ _ h => h) (Or.inl ⟨by rfl, ?_⟩) (by assumption) ?_
      rotate_left
      · (intro w hSw; (try dsimp only at hSw); go_simp; try with_reducible rfl)
      try simp only [Act.put, List.getElem_toArray, List.getElem_cons_zero, List.getElem_cons_succ, List.setIfInBounds_toArray, List.set_cons_zero, List.set_cons_succ]
      refine wpAnyK_two (i := 2) (j := 7) rfl rfl (by kernel_rfl) (fun K hK => ?_) (fun K hK => ?_)
      · go_simp
        refine (n_any 3 (by omega) (by omega) _ ra rn rc _ Q0.out.src).mono ?_
        rintro e x1 ⟨rq, hrq, rfl, hs, he⟩
        have T1 := Lib.hid (Q0.out.read hs he.apart)
        have RD := Lib.hid hrq
        have L2 := Lib.hid (show w3.drew.heap.size ≤ x1.heap.size from he.apart.size)
        refine hK.out _ _ (ajs_of T1.out) (fun hHeld1 => ?_)
        clear hK K hHeld0 hs he hrq
        try simp only [Act.put, List.getElem_toArray, List.getElem_cons_zero, List.getElem_cons_succ, List.setIfInBounds_toArray, List.set_cons_zero, List.set_cons_succ]
        refine wpAnyK_two (i := 3) (j := 7) rfl rfl (by kernel_rfl) (fun K hK => ?_) (fun K hK => ?_)
        · go_simp
          with_reducible refine ((rraise_ok ax nx capx zx px jx OX.out.1.good rq RD.out.1 (by have := RD.out.2; omega) _ T1.out.x.row).mono fun _ _ h => h.y).mono ?_
          rintro e x2 ⟨av, nv, capv, zv, pv, jv, cv, rfl, hb, hr, hm, hc, hx⟩
          have T2 := Lib.hid (T1.out.call hb)
          have RX := Lib.hid hr
          have HRV := Lib.hid (show Raised zx px jx zv pv cv jv from ⟨rq, RD.out.1, by have := RD.out.2; omega, hm⟩)
          have XX := Lib.hid (show ∀ y, av = some y → x1.heap.size ≤ y.block from hx)
          have L3 := Lib.hid (show x1.heap.size ≤ x2.heap.size from hb.size)
          refine hK.out _ _ (ajs_of T2.out) (fun hHeld2 => ?_)
          clear hK K hHeld1 hb hr hm hc hx
          try simp only [Act.put, List.getElem_toArray, List.getElem_cons_zero, List.getElem_cons_succ, List.setIfInBounds_toArray, List.set_cons_zero, List.set_cons_succ]
          refine wpAnyK_take (i := 4) (v := ?_) rfl (by kernel_rfl) (fun _ _ _ h => h) (Or.inl ⟨by rfl, ?_⟩) (by assumption) ?_
          rotate_left
          · (intro w hSw; (try dsimp only at hSw); go_simp; try with_reducible rfl)
          try simp only [Act.put, List.getElem_toArray, List.getElem_cons_zero, List.getElem_cons_succ, List.setIfInBounds_toArray, List.set_cons_zero, List.set_cons_succ]
          refine wpAnyK_take (i := 5) (v := ?_) rfl (by kernel_rfl) (fun _ _ _ h => h) (Or.inl ⟨by rfl, ?_⟩) (by assumption) ?_
          rotate_left
          · (intro w hSw; (try dsimp only at hSw); go_simp; try with_reducible rfl)
          try simp only [Act.put, List.getElem_toArray, List.getElem_cons_zero, List.getElem_cons_succ, List.setIfInBounds_toArray, List.set_cons_zero, List.set_cons_succ]
          refine wpAnyK_take (i := 6) (v := ?_) rfl (by kernel_rfl) (fun _ _ _ h => h) (Or.inl ⟨by rfl, ?_⟩) (by assumption) ?_
          rotate_left
          · (intro w hSw; (try dsimp only at hSw); go_simp; try with_reducible rfl)
          try simp only [Act.put, List.getElem_toArray, List.getElem_cons_zero, List.getElem_cons_succ, List.setIfInBounds_toArray, List.set_cons_zero, List.set_cons_succ]
          refine wpAnyK_step (i := 7) rfl (by kernel_rfl) (fun K hK => ?_)
          go_simp
          obtain ⟨x3, hux3⟩ : ∃ W', x2.alloc (.cells #[.slice none 0 0, .int .i64 0, .int .i64 0] 24) = W' := ⟨_, rfl⟩
          have hvx3 := hux3
          have hbx3 : Below x2.heap.size x2 x3 := by rw [← hux3]; exact below_box _
          have NB := Lib.hid (show Cur3 x3 x2.heap.size (.slice none 0 0) (.int .i64 0) (.int .i64 0) by rw [← hux3]; exact Cur3.new x2 _ _ _ _)
          have T3 := Lib.hid (T2.out.call hbx3)
          have RXb := Lib.hid (RX.out.under hbx3)
          have LE := Lib.hid (show w3.heap.size ≤ x2.heap.size ∧ x2.heap.size < x3.heap.size from ⟨Nat.le_trans L2.out L3.out, by rw [← hux3]; simp⟩)
          rw [hvx3]
          clear hux3 hvx3
          refine hK.out _ _ (ajs_of T3.out) (fun hHeld3 => ?_)
          clear hK K hHeld2 hbx3
          try simp only [Act.put, List.getElem_toArray, List.getElem_cons_zero, List.getElem_cons_succ, List.setIfInBounds_toArray, List.set_cons_zero, List.set_cons_succ]
          have h7 : w3.drew.heap.size = w3.heap.size := rfl
          have lf := Q0.out.f.box.lt
          have lg := Q0.out.g.box.lt
          have lh := Q0.out.h.box.lt
          have lx := Q0.out.x.box.lt
          have le1 := LE.out.1
          have le2 := LE.out.2
          have lb := Q0.out.bs
          have qx : ∀ y, av = some y → 1 ≤ nv → y.block ≠ x2.heap.size := fun y hy hn => by have := RX.out.far y hy hn; omega
          have HQN := Lib.hid (show (∀ y, av = some y → ¬ y.block = H ∧ ¬ y.block = W.heap.size) ∧ W.heap.size < x2.heap.size from ⟨fun y hy => by have := XX.out y hy; have := L2.out; omega, by omega⟩)
          have HPJ := Lib.hid (show AJ W W.heap.size F G H X af nf capf zf pf jf ag ng capg zg pg jg ah nh caph zh ph jh ax nx capx zx px jx ra rn rc (((x3.setCell ⟨x2.heap.size, 0, none⟩ (.slice av nv capv)).setCell ⟨x2.heap.size, 1, none⟩ (.int .i64 pv)).setCell ⟨x2.heap.size, 2, none⟩ (.int .i64 jv)) from T3.out.oth (B := x2.heap.size) (by omega) ⟨fun y hy hn => by have := QF.out.1 y hy hn; omega, fun y hy hn => by have := QF.out.2.1 y hy hn; omega, fun y hy hn => by have := QF.out.2.2.1 y hy hn; omega, fun y hy hn => by have := QF.out.2.2.2.1 y hy hn; omega, fun y hy hn => by have := QF.out.2.2.2.2 y hy hn; omega⟩ _ _ _)
          have HX8 := Lib.hid (show BxI (((x3.setCell ⟨x2.heap.size, 0, none⟩ (.slice av nv capv)).setCell ⟨x2.heap.size, 1, none⟩ (.int .i64 pv)).setCell ⟨x2.heap.size, 2, none⟩ (.int .i64 jv)) x2.heap.size av nv capv pv jv zv from ⟨NB.out.set _ _ _, ((RXb.out.store qx _ _).store qx _ _).store qx _ _⟩)
          obtain ⟨n0, n1, n2, n3, n4, n5⟩ := NB.out
          clear qx le1 le2 lf lg lh lx lb h7
          refine wpAnyK_step (i := 8) rfl (by kernel_rfl) (fun K hK => ?_)
          go_simp
          refine hK.out _ _ (ajs_of HPJ.out) (fun hHeld9 => ?_)
          clear hK K hHeld3
          try simp only [Act.put, List.getElem_toArray, List.getElem_cons_zero, List.getElem_cons_succ, List.setIfInBounds_toArray, List.set_cons_zero, List.set_cons_succ]
          refine wpAnyK_done (by kernel_rfl) ?_
          simp only [List.drop_succ_cons, List.drop_zero]
          clear hHeld9
          go_wp2_with fail
          go_meet
          exact ⟨x2.heap.size, av, nv, capv, zv, pv, jv, cv, rfl, rfl, HQN, HX8, HRV, HPJ⟩
        · go_simp
          obtain ⟨x2, hux2⟩ : ∃ W', x1.alloc (.cells #[.slice none 0 0, .int .i64 0, .int .i64 0] 24) = W' := ⟨_, rfl⟩
          have hvx2 := hux2
          have hbx2 : Below x1.heap.size x1 x2 := by rw [← hux2]; exact below_box _
          have NB := Lib.hid (show Cur3 x2 x1.heap.size (.slice none 0 0) (.int .i64 0) (.int .i64 0) by rw [← hux2]; exact Cur3.new x1 _ _ _ _)
          have T2 := Lib.hid (T1.out.call hbx2)
          have LE := Lib.hid (show w3.heap.size ≤ x1.heap.size ∧ x1.heap.size < x2.heap.size from ⟨L2.out, by rw [← hux2]; simp⟩)
          rw [hvx2]
          clear hux2 hvx2
          refine hK.out _ _ (ajs_of T2.out) (fun hHeld2 => ?_)
          clear hK K hHeld1 hbx2
          try simp only [Act.put, List.getElem_toArray, List.getElem_cons_zero, List.getElem_cons_succ, List.setIfInBounds_toArray, List.set_cons_zero, List.set_cons_succ]
          refine wpAnyK_step (i := 3) rfl (by kernel_rfl) (fun K hK => ?_)
          go_simp
          with_reducible refine ((rraise_ok ax nx capx zx px jx OX.out.1.good rq RD.out.1 (by have := RD.out.2; omega) _ T2.out.x.row).mono fun _ _ h => h.y).mono ?_
          rintro e x3 ⟨av, nv, capv, zv, pv, jv, cv, rfl, hb, hr, hm, hc, hx⟩
          have T3 := Lib.hid (T2.out.call hb)
          have RX := Lib.hid hr
          have HRV := Lib.hid (show Raised zx px jx zv pv cv jv from ⟨rq, RD.out.1, by have := RD.out.2; omega, hm⟩)
          have XX := Lib.hid (show ∀ y, av = some y → x2.heap.size ≤ y.block from hx)
          have L3 := Lib.hid (show x2.heap.size ≤ x3.heap.size from hb.size)
          have NBs := Lib.hid (NB.out.below hb)
          refine hK.out _ _ (ajs_of T3.out) (fun hHeld3 => ?_)
          clear hK K hHeld2 hb hr hm hc hx
          try simp only [Act.put, List.getElem_toArray, List.getElem_cons_zero, List.getElem_cons_succ, List.setIfInBounds_toArray, List.set_cons_zero, List.set_cons_succ]
          refine wpAnyK_take (i := 4) (v := ?_) rfl (by kernel_rfl) (fun _ _ _ h => h) (Or.inl ⟨by rfl, ?_⟩) (by assumption) ?_
          rotate_left
          · (intro w hSw; (try dsimp only at hSw); go_simp; try with_reducible rfl)
          try simp only [Act.put, List.getElem_toArray, List.getElem_cons_zero, List.getElem_cons_succ, List.setIfInBounds_toArray, List.set_cons_zero, List.set_cons_succ]
          refine wpAnyK_take (i := 5) (v := ?_) rfl (by kernel_rfl) (fun _ _ _ h => h) (Or.inl ⟨by rfl, ?_⟩) (by assumption) ?_
          rotate_left
          · (intro w hSw; (try dsimp only at hSw); go_simp; try with_reducible rfl)
          try simp only [Act.put, List.getElem_toArray, List.getElem_cons_zero, List.getElem_cons_succ, List.setIfInBounds_toArray, List.set_cons_zero, List.set_cons_succ]
          refine wpAnyK_take (i := 6) (v := ?_) rfl (by kernel_rfl) (fun _ _ _ h => h) (Or.inl ⟨by rfl, ?_⟩) (by assumption) ?_
          rotate_left
          · (intro w hSw; (try dsimp only at hSw); go_simp; try with_reducible rfl)
          try simp only [Act.put, List.getElem_toArray, List.getElem_cons_zero, List.getElem_cons_succ, List.setIfInBounds_toArray, List.set_cons_zero, List.set_cons_succ]
          have h7 : w3.drew.heap.size = w3.heap.size := rfl
          have lf := Q0.out.f.box.lt
          have lg := Q0.out.g.box.lt
          have lh := Q0.out.h.box.lt
          have lx := Q0.out.x.box.lt
          have le1 := LE.out.1
          have le2 := LE.out.2
          have lb := Q0.out.bs
          have qx : ∀ y, av = some y → 1 ≤ nv → y.block ≠ x1.heap.size := fun y hy hn => by have := XX.out y hy; omega
          have HQN := Lib.hid (show (∀ y, av = some y → ¬ y.block = H ∧ ¬ y.block = W.heap.size) ∧ W.heap.size < x1.heap.size from ⟨fun y hy => by have := XX.out y hy; have := L2.out; omega, by omega⟩)
          have HPJ := Lib.hid (show AJ W W.heap.size F G H X af nf capf zf pf jf ag ng capg zg pg jg ah nh caph zh ph jh ax nx capx zx px jx ra rn rc (((x3.setCell ⟨x1.heap.size, 0, none⟩ (.slice av nv capv)).setCell ⟨x1.heap.size, 1, none⟩ (.int .i64 pv)).setCell ⟨x1.heap.size, 2, none⟩ (.int .i64 jv)) from T3.out.oth (B := x1.heap.size) (by omega) ⟨fun y hy hn => by have := QF.out.1 y hy hn; omega, fun y hy hn => by have := QF.out.2.1 y hy hn; omega, fun y hy hn => by have := QF.out.2.2.1 y hy hn; omega, fun y hy hn => by have := QF.out.2.2.2.1 y hy hn; omega, fun y hy hn => by have := QF.out.2.2.2.2 y hy hn; omega⟩ _ _ _)
          have HX8 := Lib.hid (show BxI (((x3.setCell ⟨x1.heap.size, 0, none⟩ (.slice av nv capv)).setCell ⟨x1.heap.size, 1, none⟩ (.int .i64 pv)).setCell ⟨x1.heap.size, 2, none⟩ (.int .i64 jv)) x1.heap.size av nv capv pv jv zv from ⟨NBs.out.set _ _ _, ((RX.out.store qx _ _).store qx _ _).store qx _ _⟩)
          obtain ⟨n0, n1, n2, n3, n4, n5⟩ := NBs.out
          clear qx le1 le2 lf lg lh lx lb h7
          refine wpAnyK_step (i := 8) rfl (by kernel_rfl) (fun K hK => ?_)
          go_simp
          refine hK.out _ _ (ajs_of HPJ.out) (fun hHeld9 => ?_)
          clear hK K hHeld3
          try simp only [Act.put, List.getElem_toArray, List.getElem_cons_zero, List.getElem_cons_succ, List.setIfInBounds_toArray, List.set_cons_zero, List.set_cons_succ]
          refine wpAnyK_done (by kernel_rfl) ?_
          simp only [List.drop_succ_cons, List.drop_zero]
          clear hHeld9
          go_wp2_with fail
          go_meet
          exact ⟨x1.heap.size, av, nv, capv, zv, pv, jv, cv, rfl, rfl, HQN, HX8, HRV, HPJ⟩
      · go_simp
        obtain ⟨x1, hvx1⟩ : ∃ W', (w3.alloc (.cells #[.slice none 0 0, .int .i64 0, .int .i64 0] 24)).drew = W' := ⟨_, rfl⟩
        have hux1 : w3.drew.alloc (.cells #[.slice none 0 0, .int .i64 0, .int .i64 0] 24) = x1 := hvx1
        have hbx1 : Below w3.drew.heap.size w3.drew x1 := by rw [← hux1]; exact below_box _
        have NB := Lib.hid (show Cur3 x1 w3.heap.size (.slice none 0 0) (.int .i64 0) (.int .i64 0) by rw [← hux1]; exact Cur3.new w3.drew _ _ _ _)
        have T1 := Lib.hid (Q0.out.call hbx1)
        have LE := Lib.hid (show w3.heap.size ≤ w3.drew.heap.size ∧ w3.drew.heap.size < x1.heap.size from ⟨Nat.le_refl _, by rw [← hux1]; simp⟩)
        rw [hvx1]
        clear hux1 hvx1
        refine hK.out _ _ (ajs_of T1.out) (fun hHeld1 => ?_)
        clear hK K hHeld0 hbx1
        try simp only [Act.put, List.getElem_toArray, List.getElem_cons_zero, List.getElem_cons_succ, List.setIfInBounds_toArray, List.set_cons_zero, List.set_cons_succ]
        refine wpAnyK_step (i := 2) rfl (by kernel_rfl) (fun K hK => ?_)
        go_simp
        refine (n_any 3 (by omega) (by omega) _ ra rn rc _ T1.out.src).mono ?_
        rintro e x2 ⟨rq, hrq, rfl, hs, he⟩
        have T2 := Lib.hid (T1.out.read hs he.apart)
        have RD := Lib.hid hrq
        have L2 := Lib.hid (show x1.heap.size ≤ x2.heap.size from he.apart.size)
        have NBr := Lib.hid (NB.out.apart he.apart (by have := LE.out.1; have := Q0.out.f.box.lt; have := Q0.out.bs; show _ ≠ _; have h7 : w3.drew.heap.size = w3.heap.size := rfl; omega))
        refine hK.out _ _ (ajs_of T2.out) (fun hHeld2 => ?_)
        clear hK K hHeld1 hs he hrq
        try simp only [Act.put, List.getElem_toArray, List.getElem_cons_zero, List.getElem_cons_succ, List.setIfInBounds_toArray, List.set_cons_zero, List.set_cons_succ]
        refine wpAnyK_step (i := 3) rfl (by kernel_rfl) (fun K hK => ?_)
        go_simp
        with_reducible refine ((rraise_ok ax nx capx zx px jx OX.out.1.good rq RD.out.1 (by have := RD.out.2; omega) _ T2.out.x.row).mono fun _ _ h => h.y).mono ?_
        rintro e x3 ⟨av, nv, capv, zv, pv, jv, cv, rfl, hb, hr, hm, hc, hx⟩
        have T3 := Lib.hid (T2.out.call hb)
        have RX := Lib.hid hr
        have HRV := Lib.hid (show Raised zx px jx zv pv cv jv from ⟨rq, RD.out.1, by have := RD.out.2; omega, hm⟩)
        have XX := Lib.hid (show ∀ y, av = some y → x2.heap.size ≤ y.block from hx)
        have L3 := Lib.hid (show x2.heap.size ≤ x3.heap.size from hb.size)
        have NBrs := Lib.hid (NBr.out.below hb)
        refine hK.out _ _ (ajs_of T3.out) (fun hHeld3 => ?_)
        clear hK K hHeld2 hb hr hm hc hx
        try simp only [Act.put, List.getElem_toArray, List.getElem_cons_zero, List.getElem_cons_succ, List.setIfInBounds_toArray, List.set_cons_zero, List.set_cons_succ]
        refine wpAnyK_take (i := 4) (v := ?_) rfl (by kernel_rfl) (fun _ _ _ h => h) (Or.inl ⟨by rfl, ?_⟩) (by assumption) ?_
        rotate_left
        · (intro w hSw; (try dsimp only at hSw); go_simp; try with_reducible rfl)
        try simp only [Act.put, List.getElem_toArray, List.getElem_cons_zero, List.getElem_cons_succ, List.setIfInBounds_toArray, List.set_cons_zero, List.set_cons_succ]
        refine wpAnyK_take (i := 5) (v := ?_) rfl (by kernel_rfl) (fun _ _ _ h => h) (Or.inl ⟨by rfl, ?_⟩) (by assumption) ?_
        rotate_left
        · (intro w hSw; (try dsimp only at hSw); go_simp; try with_reducible rfl)
        try simp only [Act.put, List.getElem_toArray, List.getElem_cons_zero, List.getElem_cons_succ, List.setIfInBounds_toArray, List.set_cons_zero, List.set_cons_succ]
        refine wpAnyK_take (i := 6) (v := ?_) rfl (by kernel_rfl) (fun _ _ _ h => h) (Or.inl ⟨by rfl, ?_⟩) (by assumption) ?_
        rotate_left
        · (intro w hSw; (try dsimp only at hSw); go_simp; try with_reducible rfl)
        try simp only [Act.put, List.getElem_toArray, List.getElem_cons_zero, List.getElem_cons_succ, List.setIfInBounds_toArray, List.set_cons_zero, List.set_cons_succ]
        have h7 : w3.drew.heap.size = w3.heap.size := rfl
        have lf := Q0.out.f.box.lt
        have lg := Q0.out.g.box.lt
        have lh := Q0.out.h.box.lt
        have lx := Q0.out.x.box.lt
        have le1 := LE.out.1
        have le2 := LE.out.2
        have lb := Q0.out.bs
        have qx : ∀ y, av = some y → 1 ≤ nv → y.block ≠ w3.heap.size := fun y hy hn => by have := XX.out y hy; have := L2.out; omega
        have HQN := Lib.hid (show (∀ y, av = some y → ¬ y.block = H ∧ ¬ y.block = W.heap.size) ∧ W.heap.size < w3.heap.size from ⟨fun y hy => by have := XX.out y hy; have := L2.out; omega, by omega⟩)
        have HPJ := Lib.hid (show AJ W W.heap.size F G H X af nf capf zf pf jf ag ng capg zg pg jg ah nh caph zh ph jh ax nx capx zx px jx ra rn rc (((x3.setCell ⟨w3.heap.size, 0, none⟩ (.slice av nv capv)).setCell ⟨w3.heap.size, 1, none⟩ (.int .i64 pv)).setCell ⟨w3.heap.size, 2, none⟩ (.int .i64 jv)) from T3.out.oth (B := w3.heap.size) (by omega) ⟨fun y hy hn => by have := QF.out.1 y hy hn; omega, fun y hy hn => by have := QF.out.2.1 y hy hn; omega, fun y hy hn => by have := QF.out.2.2.1 y hy hn; omega, fun y hy hn => by have := QF.out.2.2.2.1 y hy hn; omega, fun y hy hn => by have := QF.out.2.2.2.2 y hy hn; omega⟩ _ _ _)
        have HX8 := Lib.hid (show BxI (((x3.setCell ⟨w3.heap.size, 0, none⟩ (.slice av nv capv)).setCell ⟨w3.heap.size, 1, none⟩ (.int .i64 pv)).setCell ⟨w3.heap.size, 2, none⟩ (.int .i64 jv)) w3.heap.size av nv capv pv jv zv from ⟨NBrs.out.set _ _ _, ((RX.out.store qx _ _).store qx _ _).store qx _ _⟩)
        obtain ⟨n0, n1, n2, n3, n4, n5⟩ := NBrs.out
        clear qx le1 le2 lf lg lh lx lb h7
        refine wpAnyK_step (i := 8) rfl (by kernel_rfl) (fun K hK => ?_)
        go_simp
        refine hK.out _ _ (ajs_of HPJ.out) (fun hHeld9 => ?_)
        clear hK K hHeld3
        try simp only [Act.put, List.getElem_toArray, List.getElem_cons_zero, List.getElem_cons_succ, List.setIfInBounds_toArray, List.set_cons_zero, List.set_cons_succ]
        refine wpAnyK_done (by kernel_rfl) ?_
        simp only [List.drop_succ_cons, List.drop_zero]
        clear hHeld9
        go_wp2_with fail
        go_meet
        exact ⟨w3.heap.size, av, nv, capv, zv, pv, jv, cv, rfl, rfl, HQN, HX8, HRV, HPJ⟩
    case rest =>
    obtain ⟨V, av, nv, capv, zv, pv, jv, c, rfl, rfl, HNV, XV, HRV, J4⟩ := hcut
    obtain ⟨w4, rfl⟩ : ∃ u : World, u = wc := ⟨_, rfl⟩
    clear Q0
    by_cases hc : c = 0
    rotate_left
    · have k1 : (c == 0) = false := by simpa using hc
      clear hc
      go_wp2_with fail
      go_meet
      exact ⟨ah, nh, caph, zh, ph, jh, OH, J4⟩
    subst hc
    obtain ⟨ci, ci0, ci2, hmy⟩ := HRV.out
    obtain ⟨qv, hqv, hfv⟩ := my_form1 hmy
    have GV := Lib.hid (show Good zv qv jv ∧ Day (eC zv qv jv) ∧ ECan (eSum zv qv jv zg pg jg) from ⟨hfv.good, (OX.out.2.raise ci).of hfv.val, raised_sum OF.out OG.out OX.out.1 ci0 ci2 hfv⟩)
    subst hqv
    have J6 := Lib.hid (J4.out.lay (py := qv) (jy := jv) XV.out.row (fun y hy _ => (HNV.out.1 y hy).1) (fun y hy => (HNV.out.1 y hy).2))
    obtain ⟨c0, c1, c2, c3, c4, c5⟩ := XV.out.box
    obtain ⟨d0, d1, d2, d3, d4, d5⟩ := J4.out.h.box
    clear hmy hfv
    go_wp2_with fail
    go_meet
    exact ⟨av, nv, capv, zv, qv, jv, GV, J6⟩
  case rest =>
  clear J2 OH
  obtain ⟨ah, nh, caph, zh, ph, jh, OH, J7⟩ := hcut
  obtain ⟨w7, rfl⟩ : ∃ u : World, u = wc := ⟨_, rfl⟩
  obtain ⟨c0, c1, c2, c3, c4, c5⟩ := J7.out.h.box
  obtain ⟨d0, d1, d2, d3, d4, d5⟩ := J7.out.g.box
  go_wp2_with fail
  clear c0 c1 c2 c3 c4 c5 d0 d1 d2 d3 d4 d5
  with_reducible refine ((rsum_day ah nh caph zh ph jh OH.out.1 ag ng capg zg pg jg OG.out.good OH.out.2.1 OG.out.day _ J7.out.h.row J7.out.g.row).mono fun _ _ h => h.ok OH.out.2.2).mono ?_
  rintro e v8 ⟨ay, ny, capy, zy, py, jy, rfl, hb, hr, hf, hx⟩
  obtain ⟨w8, hw⟩ : ∃ w', v8.alloc (.cells #[.slice ay ny capy, .int .i64 py, .int .i64 jy] 24) = w' := ⟨_, rfl⟩
  have hz : Below w7.heap.size w7 w8 := by rw [← hw]; exact hb.trans ((below_box _).mono hb.size)
  have K1 := Lib.hid (show AE W F H X v8.heap.size af nf capf zf pf jf ah nh caph zh ph jh ax nx capx zx px jx ay ny capy zy py jy w8.drew from AE.call (u := w8) ⟨J7.out.f.under hz, J7.out.h.under hz, J7.out.x.under hz, by rw [← hw]; exact Bx.new hr, J7.out.below.trans (hz.mono J7.out.below.size)⟩ (Below.refl _ _).drew)
  obtain ⟨bb, hbb⟩ : ∃ b : Bool, (b = true ↔ ∀ t, ole (eC zx px jx t) (eC zh ph jh t)) := by
    by_cases h : ∀ t, ole (eC zx px jx t) (eC zh ph jh t)
    · exact ⟨true, ⟨fun _ => h, fun _ => rfl⟩⟩
    · exact ⟨false, ⟨fun q => (by cases q), fun k => absurd k h⟩⟩
  have HB1 := Lib.hid hbb
  have HB2 := Lib.hid (show bb = true ↔ ∀ t, ole (eC zf pf jf t) (eC zy py jy t) by
    rw [hbb]
    have e1 : (∀ t, ole (eC zx px jx t) (eC zh ph jh t)) ↔ ∀ t, ole (eRest zf pf jf zg pg jg t) (eC zh ph jh t) := by
      constructor
      · intro h t; have := h t; rw [OX.out.1.val] at this; exact this
      · intro h t; rw [OX.out.1.val]; exact h t
    have e2 : (∀ t, ole (eC zf pf jf t) (eC zy py jy t)) ↔ ∀ t, ole (eC zf pf jf t) (oadd (eC zh ph jh t) (eC zg pg jg t)) := by
      constructor
      · intro h t; have := h t; rw [hf.val] at this; exact this
      · intro h t; rw [hf.val]; exact h t
    rw [e1, e2]
    exact rest_adj OH.out.1)
  have GY := Lib.hid hf.good
  have GXX := Lib.hid OX.out.1.good
  have HW8 := Lib.hid hw
  obtain ⟨Y, hY⟩ : ∃ Y, v8.heap.size = Y := ⟨_, rfl⟩
  have HYE := Lib.hid hY
  rw [hY] at K1
  clear hb hr hf hx hz hw hbb hY J7
  go_upto_region 11 with fail
  try rw [HW8.out]
  try rw [HYE.out]
  refine wp_region_keeps (fun u => AES W F H X Y af nf capf zf pf jf ah nh caph zh ph jh ax nx capx zx px jx ay ny capy zy py jy u) 13 2 (by kernel_rfl) (by kernel_rfl) (aes_of K1.out) (fun hHeld0 => ?_)
  refine wpAnyK_take (i := 0) (v := ?_) rfl (by kernel_rfl) (fun _ _ _ h => h) (Or.inl ⟨by rfl, ?_⟩) (by assumption) ?_
  rotate_left
  · (intro w hSw; (try dsimp only at hSw); go_simp; try with_reducible rfl)
  try simp only [Act.put, List.getElem_toArray, List.getElem_cons_zero, List.getElem_cons_succ, List.setIfInBounds_toArray, List.set_cons_zero, List.set_cons_succ]
  refine wpAnyK_take (i := 1) (v := ?_) rfl (by kernel_rfl) (fun _ _ _ h => h) (Or.inl ⟨by rfl, ?_⟩) (by assumption) ?_
  rotate_left
  · (intro w hSw; (try dsimp only at hSw); go_simp; try with_reducible rfl)
  try simp only [Act.put, List.getElem_toArray, List.getElem_cons_zero, List.getElem_cons_succ, List.setIfInBounds_toArray, List.set_cons_zero, List.set_cons_succ]
  refine wpAnyK_take (i := 2) (v := ?_) rfl (by kernel_rfl) (fun _ _ _ h => h) (Or.inl ⟨by rfl, ?_⟩) (by assumption) ?_
  rotate_left
  · (intro w hSw; (try dsimp only at hSw); go_simp; try with_reducible rfl)
  try simp only [Act.put, List.getElem_toArray, List.getElem_cons_zero, List.getElem_cons_succ, List.setIfInBounds_toArray, List.set_cons_zero, List.set_cons_succ]
  refine wpAnyK_take (i := 3) (v := ?_) rfl (by kernel_rfl) (fun _ _ _ h => h) (Or.inl ⟨by rfl, ?_⟩) (by assumption) ?_
  rotate_left
  · (intro w hSw; (try dsimp only at hSw); go_simp; try with_reducible rfl)
  try simp only [Act.put, List.getElem_toArray, List.getElem_cons_zero, List.getElem_cons_succ, List.setIfInBounds_toArray, List.set_cons_zero, List.set_cons_succ]
  refine wpAnyK_take (i := 4) (v := ?_) rfl (by kernel_rfl) (fun _ _ _ h => h) (Or.inl ⟨by rfl, ?_⟩) (by assumption) ?_
  rotate_left
  · (intro w hSw; (try dsimp only at hSw); go_simp; try with_reducible rfl)
  try simp only [Act.put, List.getElem_toArray, List.getElem_cons_zero, List.getElem_cons_succ, List.setIfInBounds_toArray, List.set_cons_zero, List.set_cons_succ]
  refine wpAnyK_take (i := 6) (v := ?_) rfl (by kernel_rfl) (fun _ _ _ h => h) (Or.inl ⟨by rfl, ?_⟩) (by assumption) ?_
  rotate_left
  · (intro w hSw; (try dsimp only at hSw); go_simp; try with_reducible rfl)
  try simp only [Act.put, List.getElem_toArray, List.getElem_cons_zero, List.getElem_cons_succ, List.setIfInBounds_toArray, List.set_cons_zero, List.set_cons_succ]
  refine wpAnyK_take (i := 7) (v := ?_) rfl (by kernel_rfl) (fun _ _ _ h => h) (Or.inl ⟨by rfl, ?_⟩) (by assumption) ?_
  rotate_left
  · (intro w hSw; (try dsimp only at hSw); go_simp; try with_reducible rfl)
  try simp only [Act.put, List.getElem_toArray, List.getElem_cons_zero, List.getElem_cons_succ, List.setIfInBounds_toArray, List.set_cons_zero, List.set_cons_succ]
  refine wpAnyK_step (i := 5) rfl (by kernel_rfl) (fun K hK => ?_)
  go_simp
  with_reducible refine (ratMost_says ax nx capx zx px jx GXX.out ah nh caph zh ph jh OH.out.1 bb HB1.out _ K1.out.x.row K1.out.h.row).mono ?_
  rintro e y1 ⟨rfl, hb⟩
  have K2 := Lib.hid (K1.out.call hb)
  clear hb
  refine hK.out _ _ (aes_of K2.out) (fun hHeld1 => ?_)
  clear hK K hHeld0
  try simp only [Act.put, List.getElem_toArray, List.getElem_cons_zero, List.getElem_cons_succ, List.setIfInBounds_toArray, List.set_cons_zero, List.set_cons_succ]
  refine wpAnyK_step (i := 8) rfl (by kernel_rfl) (fun K hK => ?_)
  go_simp
  with_reducible refine (ratMost_says af nf capf zf pf jf OF.out.good ay ny capy zy py jy GY.out bb HB2.out _ K2.out.f.row K2.out.y.row).mono ?_
  rintro e y2 ⟨rfl, hb⟩
  have K3 := Lib.hid (K2.out.call hb)
  clear hb
  refine hK.out _ _ (aes_of K3.out) (fun hHeld2 => ?_)
  clear hK K hHeld1
  try simp only [Act.put, List.getElem_toArray, List.getElem_cons_zero, List.getElem_cons_succ, List.setIfInBounds_toArray, List.set_cons_zero, List.set_cons_succ]
  refine wpAnyK_take (i := 9) (v := ?_) rfl (by kernel_rfl) (fun _ _ _ h => h) (Or.inl ⟨by rfl, ?_⟩) (by assumption) ?_
  rotate_left
  · (intro w hSw; (try dsimp only at hSw); go_simp; try with_reducible rfl)
  try simp only [Act.put, List.getElem_toArray, List.getElem_cons_zero, List.getElem_cons_succ, List.setIfInBounds_toArray, List.set_cons_zero, List.set_cons_succ]
  refine wpAnyK_take (i := 10) (v := ?_) rfl (by kernel_rfl) (fun _ _ _ h => h) (Or.inl ⟨by rfl, ?_⟩) (by assumption) ?_
  rotate_left
  · (intro w hSw; (try dsimp only at hSw); go_simp; try with_reducible rfl)
  try simp only [Act.put, List.getElem_toArray, List.getElem_cons_zero, List.getElem_cons_succ, List.setIfInBounds_toArray, List.set_cons_zero, List.set_cons_succ]
  refine wpAnyK_take (i := 11) (v := ?_) rfl (by kernel_rfl) (fun _ _ _ h => h) (Or.inl ⟨by rfl, ?_⟩) (by assumption) ?_
  rotate_left
  · (intro w hSw; (try dsimp only at hSw); go_simp; try with_reducible rfl)
  try simp only [Act.put, List.getElem_toArray, List.getElem_cons_zero, List.getElem_cons_succ, List.setIfInBounds_toArray, List.set_cons_zero, List.set_cons_succ]
  refine wpAnyK_step (i := 12) rfl (by kernel_rfl) (fun K hK => ?_)
  go_simp
  with_reducible refine (awake6 _).mono ?_
  rintro e y3 ⟨rfl, hb⟩
  have K4 := Lib.hid (K3.out.call hb)
  clear hb
  refine hK.out _ _ (aes_of K4.out) (fun hHeld3 => ?_)
  clear hK K hHeld2
  try simp only [Act.put, List.getElem_toArray, List.getElem_cons_zero, List.getElem_cons_succ, List.setIfInBounds_toArray, List.set_cons_zero, List.set_cons_succ]
  refine wpAnyK_done (by kernel_rfl) ?_
  simp only [List.drop_succ_cons, List.drop_zero]
  clear hHeld3
  go_wp2_with fail
  go_ret
  exact ⟨by simp, K4.out.below⟩
end Go.Proofs.Ytcbocglakielnaa
