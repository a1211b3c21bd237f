/- The walk of DeconvolutionMonotone. By the verifier's side. -/
import Derived.Test.YtcbocglakielnaaMDecDDecEDecFDecHDecG
import Derived.Test.YtcbocglakielnaaMOrdAS
namespace Go.Proofs.Ytcbocglakielnaa
open Go.RowKit
set_option linter.unusedSimpArgs false
set_option linter.unusedVariables false

theorem SrcAt.store {w : World} {b n cap : Nat} {a : Option Addr} (h : SrcAt w b a n cap) {B : Nat} (hB : ¬ b = B) (hx : ∀ x, a = some x → 1 ≤ n → ¬ x.block = B) (i : Nat) (v : Value) : SrcAt (w.setCell ⟨B, i, none⟩ v) b a n cap := by
  obtain ⟨⟨k, hk, hs⟩, hf, hr⟩ := h
  refine ⟨⟨k, hk, (Below.heap_setCell _ _ _ _ hB).trans hs⟩, hf, fun j hj => ?_⟩
  obtain ⟨x, z, h1, h2, h3, h4⟩ := hr j hj
  exact ⟨x, z, h1, h2, (World.cell?_of_block (w := w) (a := x.add j) (Below.heap_setCell _ _ _ _ (by unfold Addr.add; split <;> exact hx x h1 (by omega)))).trans h3, h4⟩
theorem src_far {w : World} {b n cap : Nat} {a : Option Addr} (h : SrcAt w b a n cap) : ∀ x, a = some x → 1 ≤ n → x.block < w.heap.size := fun x hx hn => by
  obtain ⟨y, z, h1, h2, h3, h4⟩ := h.row 0 (by omega)
  rw [hx] at h1; cases h1
  have := lt_of_cell h3
  unfold Addr.add at this; split at this <;> exact this

/-- Two curves in boxes, and the reader in the block b. -/
structure MQ (W : World) (b F G : Nat) (af : Option Addr) (nf capf : Nat) (zf : List Int) (pf : Nat) (jf : Int) (ag : Option Addr) (ng capg : Nat) (zg : List Int) (pg : Nat) (jg : Int) (ra : Option Addr) (rn rc : Nat) (u : World) : Prop where
  f : Bx u F af nf capf pf jf zf
  g : Bx u G ag ng capg pg jg zg
  src : SrcAt u b ra rn rc
  below : Below W.heap.size W u
  bF : b < F
  bG : b < G
  hb : W.heap.size ≤ b
  xf : ∀ x, af = some x → ¬ x.block = b
  xg : ∀ x, ag = some x → ¬ x.block = b
  xs : ∀ x, ra = some x → 1 ≤ rn → x.block < F
/-- And a third one. -/
structure MR (W : World) (b F G : Nat) (af : Option Addr) (nf capf : Nat) (zf : List Int) (pf : Nat) (jf : Int) (ag : Option Addr) (ng capg : Nat) (zg : List Int) (pg : Nat) (jg : Int) (ra : Option Addr) (rn rc : Nat) (M : Nat) (am : Option Addr) (nm capm : Nat) (zm : List Int) (pm : Nat) (jm : Int) (u : World) : Prop where
  q : MQ W b F G af nf capf zf pf jf ag ng capg zg pg jg ra rn rc u
  m : Bx u M am nm capm pm jm zm
  bM : b < M
  xm : ∀ x, am = some x → ¬ x.block = b
section
variable {W u v : World} {b F G : Nat} {af : Option Addr} {nf capf : Nat} {zf : List Int} {pf : Nat} {jf : Int} {ag : Option Addr} {ng capg : Nat} {zg : List Int} {pg : Nat} {jg : Int} {ra : Option Addr} {rn rc : Nat} {M : Nat} {am : Option Addr} {nm capm : Nat} {zm : List Int} {pm : Nat} {jm : Int}
theorem MQ.call (h : MQ W b F G af nf capf zf pf jf ag ng capg zg pg jg ra rn rc u) (hb : Below u.heap.size u v) : MQ W b F G af nf capf zf pf jf ag ng capg zg pg jg ra rn rc v := ⟨h.f.under hb, h.g.under hb, src_under h.src hb, h.below.trans (hb.mono h.below.size), h.bF, h.bG, h.hb, h.xf, h.xg, h.xs⟩
theorem MQ.read (h : MQ W b F G af nf capf zf pf jf ag ng capg zg pg jg ra rn rc u) (hs : SrcAt v b ra rn rc) (ha : Apart b u v) : MQ W b F G af nf capf zf pf jf ag ng capg zg pg jg ra rn rc v := by
  have h1 := h.bF; have h2 := h.bG
  exact ⟨h.f.apart ha (by omega) h.xf, h.g.apart ha (by omega) h.xg, hs, h.below.trans (ha.below h.hb h.below.size), h.bF, h.bG, h.hb, h.xf, h.xg, h.xs⟩
theorem MR.call (h : MR W b F G af nf capf zf pf jf ag ng capg zg pg jg ra rn rc M am nm capm zm pm jm u) (hb : Below u.heap.size u v) : MR W b F G af nf capf zf pf jf ag ng capg zg pg jg ra rn rc M am nm capm zm pm jm v := ⟨h.q.call hb, h.m.under hb, h.bM, h.xm⟩
theorem MR.read (h : MR W b F G af nf capf zf pf jf ag ng capg zg pg jg ra rn rc M am nm capm zm pm jm u) (hs : SrcAt v b ra rn rc) (ha : Apart b u v) : MR W b F G af nf capf zf pf jf ag ng capg zg pg jg ra rn rc M am nm capm zm pm jm v := by
  have h1 := h.bM
  exact ⟨h.q.read hs ha, h.m.apart ha (by omega) h.xm, h.bM, h.xm⟩
/-- A store into a box that is younger than all of them. -/
theorem MQ.other (h : MQ W b F G af nf capf zf pf jf ag ng capg zg pg jg ra rn rc u) {B : Nat} (hB : F < B) (hB2 : G < B) (hf : ∀ x, af = some x → 1 ≤ nf → x.block ≠ B) (hg : ∀ x, ag = some x → 1 ≤ ng → x.block ≠ B) (i : Nat) (x : Value) : MQ W b F G af nf capf zf pf jf ag ng capg zg pg jg ra rn rc (u.setCell ⟨B, i, none⟩ x) := by
  have h1 := h.bF; have h2 := h.hb
  exact ⟨⟨h.f.box.other (by omega) _ _, h.f.row.store hf _ _⟩, ⟨h.g.box.other (by omega) _ _, h.g.row.store hg _ _⟩, h.src.store (by omega) (fun y hy hn => by have := h.xs y hy hn; omega) i x, h.below.setCell (p := ⟨B, i, none⟩) (by show W.heap.size ≤ B; omega) _, h.bF, h.bG, h.hb, h.xf, h.xg, h.xs⟩
theorem MR.other (h : MR W b F G af nf capf zf pf jf ag ng capg zg pg jg ra rn rc M am nm capm zm pm jm u) {B : Nat} (hB : F < B) (hB2 : G < B) (hM : M < B) (hf : ∀ x, af = some x → 1 ≤ nf → x.block ≠ B) (hg : ∀ x, ag = some x → 1 ≤ ng → x.block ≠ B) (hm : ∀ x, am = some x → 1 ≤ nm → x.block ≠ B) (i : Nat) (x : Value) : MR W b F G af nf capf zf pf jf ag ng capg zg pg jg ra rn rc M am nm capm zm pm jm (u.setCell ⟨B, i, none⟩ x) :=
  ⟨h.q.other hB hB2 hf hg i x, ⟨h.m.box.other (by omega) _ _, h.m.row.store hm _ _⟩, h.bM, h.xm⟩
end
abbrev MQS (W : World) (b F G : Nat) (af : Option Addr) (nf capf : Nat) (zf : List Int) (pf : Nat) (jf : Int) (ag : Option Addr) (ng capg : Nat) (zg : List Int) (pg : Nat) (jg : Int) (ra : Option Addr) (rn rc : Nat) (u : World) : Prop :=
  u.cell? ⟨F, 0, none⟩ = some (.slice af nf capf) ∧ u.cell? ⟨F, 1, none⟩ = some (.int .i64 pf) ∧ u.cell? ⟨F, 2, none⟩ = some (.int .i64 jf) ∧ Hid (MQ W b F G af nf capf zf pf jf ag ng capg zg pg jg ra rn rc u)
theorem mqs_of {W u : World} {b F G : Nat} {af : Option Addr} {nf capf : Nat} {zf : List Int} {pf : Nat} {jf : Int} {ag : Option Addr} {ng capg : Nat} {zg : List Int} {pg : Nat} {jg : Int} {ra : Option Addr} {rn rc : Nat} (h : MQ W b F G af nf capf zf pf jf ag ng capg zg pg jg ra rn rc u) : MQS W b F G af nf capf zf pf jf ag ng capg zg pg jg ra rn rc u := ⟨h.f.box.c0, h.f.box.c1, h.f.box.c2, h⟩
abbrev MRS (W : World) (b F G : Nat) (af : Option Addr) (nf capf : Nat) (zf : List Int) (pf : Nat) (jf : Int) (ag : Option Addr) (ng capg : Nat) (zg : List Int) (pg : Nat) (jg : Int) (ra : Option Addr) (rn rc : Nat) (M : Nat) (am : Option Addr) (nm capm : Nat) (zm : List Int) (pm : Nat) (jm : Int) (u : World) : Prop :=
  u.cell? ⟨G, 0, none⟩ = some (.slice ag ng capg) ∧ u.cell? ⟨G, 1, none⟩ = some (.int .i64 pg) ∧ u.cell? ⟨G, 2, none⟩ = some (.int .i64 jg) ∧ Hid (MR W b F G af nf capf zf pf jf ag ng capg zg pg jg ra rn rc M am nm capm zm pm jm u)
theorem mrs_of {W u : World} {b F G : Nat} {af : Option Addr} {nf capf : Nat} {zf : List Int} {pf : Nat} {jf : Int} {ag : Option Addr} {ng capg : Nat} {zg : List Int} {pg : Nat} {jg : Int} {ra : Option Addr} {rn rc : Nat} {M : Nat} {am : Option Addr} {nm capm : Nat} {zm : List Int} {pm : Nat} {jm : Int} (h : MR W b F G af nf capf zf pf jf ag ng capg zg pg jg ra rn rc M am nm capm zm pm jm u) : MRS W b F G af nf capf zf pf jf ag ng capg zg pg jg ra rn rc M am nm capm zm pm jm u := ⟨h.q.g.box.c0, h.q.g.box.c1, h.q.g.box.c2, h⟩

theorem nice_sum {zs ys : List Int} {p q : Nat} {inc jnc : Int} (h : Nice 500000 (eC zs p inc)) (k : Nice 500000 (eC ys q jnc)) : ECan (eSum zs p inc ys q jnc) ∧ Nice 1000000 (eSum zs p inc ys q jnc) := by
  have := h.sum k
  exact ⟨Nice.can (E := eSum zs p inc ys q jnc) this (by omega), this⟩
/-- What is known of a sum's curve. -/
structure Grown (zf : List Int) (pf : Nat) (jf : Int) (zm : List Int) (pm : Nat) (jm : Int) : Prop where
  good : Good zm pm jm
  day : Day (eC zm pm jm)
  le : ∀ t, ole (eC zf pf jf t) (eC zm pm jm t)

theorem my_form {E : Nat → Option Int} {zs : List Int} {p inc : Int} (h : MY E zs p inc 0) : ∃ q : Nat, p = q ∧ EForm zs q inc E := by
  rcases h with ⟨_, q, hq, hf⟩ | ⟨h, _⟩
  · exact ⟨q, hq, hf⟩
  · exact absurd rfl h
theorem rsum_day8 (a1 : Option Addr) (n1 cap1 : Nat) (z1 : List Int) (p1 : Nat) (i1 : Int) (g1 : Good z1 p1 i1) (a2 : Option Addr) (n2 cap2 : Nat) (z2 : List Int) (p2 : Nat) (i2 : Int) (g2 : Good z2 p2 i2) (h1 : Nice 500000 (eC z1 p1 i1)) (h2 : Nice 500000 (eC z2 p2 i2))
    (w : World) (r1 : RowZ w a1 n1 cap1 z1) (r2 : RowZ w a2 n2 cap2 z2) : Calls Try.prog 29 #[curV a1 n1 cap1 p1 i1, curV a2 n2 cap2 p2 i2] w (GivesOk (eSum z1 p1 i1 z2 p2 i2) w) := by
  obtain ⟨L, hL, hl⟩ := lcm_day g1 g2 h1.day h2.day
  exact (rsum_ok a1 n1 cap1 z1 p1 i1 g1 a2 n2 cap2 z2 p2 i2 g2 L hl hL w r1 r2).mono fun _ _ h => h.ok (nice_sum h1 h2).1
theorem grown_of {zf zd zm : List Int} {pf pd pm : Nat} {jf jd jm : Int} (gd : Good zd pd jd) (h1 : Nice 500000 (eC zf pf jf)) (h2 : Nice 500000 (eC zd pd jd)) (hm : EForm zm pm jm (eSum zf pf jf zd pd jd)) : Grown zf pf jf zm pm jm :=
  ⟨hm.good, (nice_sum h1 h2).2.day.of hm.val, fun t => ole_more (xs := zm) gd hm.val t⟩

set_option maxRecDepth 100000 in
set_option maxHeartbeats 6400000 in
theorem deconvolutionMonotone_walk (W : World) (a : Option Addr) (n cap : Nat) (hrow : RowAt W a n cap) :
    Calls Try.prog 11 #[.slice a n cap] W fun e w' => e = .returned (.bool true) ∧ Below W.heap.size W w' := by
  have HR := Lib.hid hrow
  clear hrow
  go_enter Try.func11, Try.ntmps11
  go_wp2_with fail
  refine (new_any a n cap _ HR.out).mono ?_
  rintro e u1 ⟨rfl, hb1, hz1, ra, rn, rc, hs1⟩
  have HB1 := Lib.hid hb1
  have HS1 := Lib.hid hs1
  have Z1 := Lib.hid hz1
  clear hb1 hz1 hs1
  go_wp2_with fail
  refine (curve_any 5 (by omega) (by omega) _ ra rn rc _ HS1.out).mono ?_
  rintro e u2 ⟨af, nf, capf, zf, pf, jf, rfl, hs2, he2, hr2, ok2, hx2⟩
  have OF := Lib.hid (And.intro ok2.good ((drawn_nice ok2 (by omega)).le (show (10000 : Int) ≤ 500000 by omega)))
  have HS2 := Lib.hid hs2
  have R2 := Lib.hid hr2
  have X2 := Lib.hid (show ∀ x, af = some x → ¬ x.block = W.heap.size from fun x hx => by have := hx2 x hx; have := Z1.out; omega)
  have HB2 := Lib.hid (HB1.out.trans (he2.below (Nat.le_refl _) HB1.out.size))
  clear hs2 he2 hr2 ok2 hx2
  go_wp2_with fail
  refine (second_any 4 (by omega) (by omega) _ ra rn rc _ HS2.out).mono ?_
  rintro e u3 ⟨ag, ng, capg, zg, pg, jg, rfl, hs3, he3, hr3, hg3, h03, hn3, hx3⟩
  have OG := Lib.hid (And.intro hg3 (And.intro hn3 h03))
  have HS3 := Lib.hid hs3
  have R3 := Lib.hid (And.intro (R2.out.apart he3 X2.out) hr3)
  have h9 : W.heap.size < u2.heap.size := lt_of_cell (src_cell HS2.out)
  have X3 := Lib.hid (show ∀ x, ag = some x → ¬ x.block = W.heap.size from fun x hx => by have := hx3 x hx; omega)
  have HB3 := Lib.hid (HB2.out.trans (he3.below (Nat.le_refl _) HB2.out.size))
  clear hs3 he3 hr3 hg3 h03 hn3 hx3 h9
  obtain ⟨w0, hw⟩ : ∃ w', (u3.alloc (.cells #[.slice af nf capf, .int .i64 pf, .int .i64 jf] 24)).alloc (.cells #[.slice ag ng capg, .int .i64 pg, .int .i64 jg] 24) = w' := ⟨_, rfl⟩
  have hz : Below u3.heap.size u3 w0 := by rw [← hw]; exact (below_box _).alloc (by simp) _
  have Q0 := Lib.hid (show MQ W W.heap.size u3.heap.size (u3.heap.size + 1) af nf capf zf pf jf ag ng capg zg pg jg ra rn rc w0.drew from MQ.call (u := w0) ⟨by rw [← hw]; exact (Bx.new R3.out.1).under (below_box _), by
    rw [← hw]
    have := Bx.new (p := pg) (inc := jg) (R3.out.2.alloc (.cells #[.slice af nf capf, .int .i64 pf, .int .i64 jf] 24))
    rwa [show (u3.alloc (.cells #[.slice af nf capf, .int .i64 pf, .int .i64 jf] 24)).heap.size = u3.heap.size + 1 by simp] at this, src_under HS3.out hz, HB3.out.trans (hz.mono HB3.out.size), lt_of_cell (src_cell HS3.out), Nat.lt_succ_of_lt (lt_of_cell (src_cell HS3.out)), Nat.le_refl _, X2.out, X3.out, src_far HS3.out⟩ (Below.refl _ _).drew)
  have SW0 := Lib.hid (show u3.heap.size + 2 = w0.heap.size by rw [← hw]; simp)
  have FF := Lib.hid (And.intro R3.out.1.far R3.out.2.far)
  have HW0 := Lib.hid hw
  clear hw hz HB1 HB2 HB3 HS1 HS2 HS3 R2 R3 X2 X3
  go_upto_region 3 with fail
  try rw [HW0.out]
  clear HW0
  obtain ⟨F, hF⟩ : ∃ F, u3.heap.size = F := ⟨_, rfl⟩
  rw [hF] at Q0 SW0 FF ⊢
  clear hF
  obtain ⟨G, hG⟩ : ∃ G, F + 1 = G := ⟨_, rfl⟩
  rw [hG] at Q0 ⊢
  clear hG
  go_cut [6, 7] (fun s6 s7 wx => ∃ (M : Nat) (am : Option Addr) (nm capm : Nat) (zm : List Int) (pm : Nat) (jm : Int), s6 = .pointer (some ⟨M, 0, none⟩) ∧ s7 = .int .i64 0 ∧ F < M ∧ G < M ∧ Hid (Grown zf pf jf zm pm jm) ∧ Hid (∀ x, am = some x → 1 ≤ nm → x.block < wx.heap.size) ∧ Hid (MR W W.heap.size F G af nf capf zf pf jf ag ng capg zg pg jg ra rn rc M am nm capm zm pm jm wx))
  case first =>
    refine wp_region_keeps (fun u => MQS W W.heap.size F G af nf capf zf pf jf ag ng capg zg pg jg ra rn rc u) 9 1 (by kernel_rfl) (by kernel_rfl) (mqs_of Q0.out) (fun hHeld0 => ?_)
    refine wpAnyK_take (i := 0) (v := ?_) rfl (by kernel_rfl) (fun _ _ _ h => h) (Or.inl ⟨by rfl, ?_⟩) (by assumption) ?_
    rotate_left
    · (intro w hSw; (try dsimp only at hSw); go_simp; try with_reducible rfl)
    try simp only [Act.put, List.getElem_toArray, List.getElem_cons_zero, List.getElem_cons_succ, List.setIfInBounds_toArray, List.set_cons_zero, List.set_cons_succ]
    refine wpAnyK_take (i := 1) (v := ?_) rfl (by kernel_rfl) (fun _ _ _ h => h) (Or.inl ⟨by rfl, ?_⟩) (by assumption) ?_
    rotate_left
    · (intro w hSw; (try dsimp only at hSw); go_simp; try with_reducible rfl)
    try simp only [Act.put, List.getElem_toArray, List.getElem_cons_zero, List.getElem_cons_succ, List.setIfInBounds_toArray, List.set_cons_zero, List.set_cons_succ]
    refine wpAnyK_two (i := 2) (j := 7) rfl rfl (by kernel_rfl) (fun K hK => ?_) (fun K hK => ?_)
    · go_simp
      refine (curve_any 3 (by omega) (by omega) _ ra rn rc _ Q0.out.src).mono ?_
      rintro e x1 ⟨ad, nd, capd, zd, pd, jd, rfl, hs, he, hr, ok, hx⟩
      have OD := Lib.hid (And.intro ok.good ((drawn_nice ok (by omega)).le (show (10000 : Int) ≤ 500000 by omega)))
      clear ok
      have T1 := Lib.hid (Q0.out.read hs he)
      have RD := Lib.hid hr
      have L2 := Lib.hid (show w0.drew.heap.size ≤ x1.heap.size from he.size)
      refine hK.out _ _ (mqs_of T1.out) (fun hHeld1 => ?_)
      clear hK K hHeld0 hs he hr hx
      try simp only [Act.put, List.getElem_toArray, List.getElem_cons_zero, List.getElem_cons_succ, List.setIfInBounds_toArray, List.set_cons_zero, List.set_cons_succ]
      refine wpAnyK_two (i := 3) (j := 7) rfl rfl (by kernel_rfl) (fun K hK => ?_) (fun K hK => ?_)
      · go_simp
        with_reducible refine (rsum_day8 af nf capf zf pf jf OF.out.1 ad nd capd zd pd jd OD.out.1 OF.out.2 OD.out.2 _ T1.out.f.row RD.out).mono ?_
        rintro e x2 ⟨ax, nx, capx, zx, px, jx, rfl, hb, hr, hf, hx⟩
        have T2 := Lib.hid (T1.out.call hb)
        have RX := Lib.hid hr
        have HFX := Lib.hid hf
        have XX := Lib.hid (show ∀ y, ax = some y → x1.heap.size ≤ y.block from hx)
        have L3 := Lib.hid (show x1.heap.size ≤ x2.heap.size from hb.size)
        refine hK.out _ _ (mqs_of T2.out) (fun hHeld2 => ?_)
        clear hK K hHeld1 hb hr hf hx
        try simp only [Act.put, List.getElem_toArray, List.getElem_cons_zero, List.getElem_cons_succ, List.setIfInBounds_toArray, List.set_cons_zero, List.set_cons_succ]
        refine wpAnyK_take (i := 4) (v := ?_) rfl (by kernel_rfl) (fun _ _ _ h => h) (Or.inl ⟨by rfl, ?_⟩) (by assumption) ?_
        rotate_left
        · (intro w hSw; (try dsimp only at hSw); go_simp; try with_reducible rfl)
        try simp only [Act.put, List.getElem_toArray, List.getElem_cons_zero, List.getElem_cons_succ, List.setIfInBounds_toArray, List.set_cons_zero, List.set_cons_succ]
        refine wpAnyK_take (i := 5) (v := ?_) rfl (by kernel_rfl) (fun _ _ _ h => h) (Or.inl ⟨by rfl, ?_⟩) (by assumption) ?_
        rotate_left
        · (intro w hSw; (try dsimp only at hSw); go_simp; try with_reducible rfl)
        try simp only [Act.put, List.getElem_toArray, List.getElem_cons_zero, List.getElem_cons_succ, List.setIfInBounds_toArray, List.set_cons_zero, List.set_cons_succ]
        refine wpAnyK_take (i := 6) (v := ?_) rfl (by kernel_rfl) (fun _ _ _ h => h) (Or.inl ⟨by rfl, ?_⟩) (by assumption) ?_
        rotate_left
        · (intro w hSw; (try dsimp only at hSw); go_simp; try with_reducible rfl)
        try simp only [Act.put, List.getElem_toArray, List.getElem_cons_zero, List.getElem_cons_succ, List.setIfInBounds_toArray, List.set_cons_zero, List.set_cons_succ]
        refine wpAnyK_step (i := 7) rfl (by kernel_rfl) (fun K hK => ?_)
        go_simp
        obtain ⟨x3, hux3⟩ : ∃ W', x2.alloc (.cells #[.slice none 0 0, .int .i64 0, .int .i64 0] 24) = W' := ⟨_, rfl⟩
        have hvx3 := hux3
        have hbx3 : Below x2.heap.size x2 x3 := by rw [← hux3]; exact below_box _
        have NB := Lib.hid (show Cur3 x3 x2.heap.size (.slice none 0 0) (.int .i64 0) (.int .i64 0) by rw [← hux3]; exact Cur3.new x2 _ _ _ _)
        have T3 := Lib.hid (T2.out.call hbx3)
        have RXb := Lib.hid (RX.out.under hbx3)
        have LE := Lib.hid (show w0.heap.size ≤ x2.heap.size ∧ x2.heap.size < x3.heap.size from ⟨Nat.le_trans L2.out L3.out, by rw [← hux3]; simp⟩)
        rw [hvx3]
        clear hux3 hvx3
        refine hK.out _ _ (mqs_of T3.out) (fun hHeld3 => ?_)
        clear hK K hHeld2 hbx3
        try simp only [Act.put, List.getElem_toArray, List.getElem_cons_zero, List.getElem_cons_succ, List.setIfInBounds_toArray, List.set_cons_zero, List.set_cons_succ]
        have h7 : w0.drew.heap.size = w0.heap.size := rfl
        have lf := Q0.out.f.box.lt
        have lg := Q0.out.g.box.lt
        have le1 := LE.out.1
        have le2 := LE.out.2
        have hFB : F < x2.heap.size := by omega
        have hGB : G < x2.heap.size := by omega
        have qx : ∀ y, ax = some y → 1 ≤ nx → y.block ≠ x2.heap.size := fun y hy hn => by have := RX.out.far y hy hn; omega
        have qf : ∀ y, af = some y → 1 ≤ nf → y.block ≠ x2.heap.size := fun y hy hn => by have := FF.out.1 y hy hn; omega
        have qg : ∀ y, ag = some y → 1 ≤ ng → y.block ≠ x2.heap.size := fun y hy hn => by have := FF.out.2 y hy hn; omega
        have hbF := T3.out.bF
        have xm : ∀ y, ax = some y → ¬ y.block = W.heap.size := fun y hy => by have := XX.out y hy; have := L2.out; have := Q0.out.f.box.lt; have := Q0.out.bF; have h7 : w0.drew.heap.size = w0.heap.size := rfl; omega
        have HP := Lib.hid (show MR W W.heap.size F G af nf capf zf pf jf ag ng capg zg pg jg ra rn rc x2.heap.size ax nx capx zx px jx (((x3.setCell ⟨x2.heap.size, 0, none⟩ (.slice ax nx capx)).setCell ⟨x2.heap.size, 1, none⟩ (.int .i64 px)).setCell ⟨x2.heap.size, 2, none⟩ (.int .i64 jx)) from ⟨((T3.out.other hFB hGB qf qg _ _).other hFB hGB qf qg _ _).other hFB hGB qf qg _ _, ⟨NB.out.set _ _ _, ((RXb.out.store qx _ _).store qx _ _).store qx _ _⟩, by omega, xm⟩)
        have HQ := Lib.hid (show ∀ y, ax = some y → 1 ≤ nx → y.block < (((x3.setCell ⟨x2.heap.size, 0, none⟩ (.slice ax nx capx)).setCell ⟨x2.heap.size, 1, none⟩ (.int .i64 px)).setCell ⟨x2.heap.size, 2, none⟩ (.int .i64 jx)).heap.size from HP.out.m.row.far)
        have HGR := Lib.hid (grown_of OD.out.1 OF.out.2 OD.out.2 HFX.out)
        obtain ⟨n0, n1, n2, n3, n4, n5⟩ := NB.out
        clear qx qf qg le1 le2 lf lg h7
        refine wpAnyK_step (i := 8) rfl (by kernel_rfl) (fun K hK => ?_)
        go_simp
        refine hK.out _ _ (mqs_of HP.out.q) (fun hHeld9 => ?_)
        clear hK K hHeld3
        try simp only [Act.put, List.getElem_toArray, List.getElem_cons_zero, List.getElem_cons_succ, List.setIfInBounds_toArray, List.set_cons_zero, List.set_cons_succ]
        refine wpAnyK_done (by kernel_rfl) ?_
        simp only [List.drop_succ_cons, List.drop_zero]
        clear hHeld9
        go_wp2_with fail
        go_meet
        exact ⟨x2.heap.size, ax, nx, capx, zx, px, jx, rfl, rfl, hFB, hGB, HGR, HQ, HP⟩
      · go_simp
        obtain ⟨x2, hux2⟩ : ∃ W', x1.alloc (.cells #[.slice none 0 0, .int .i64 0, .int .i64 0] 24) = W' := ⟨_, rfl⟩
        have hvx2 := hux2
        have hbx2 : Below x1.heap.size x1 x2 := by rw [← hux2]; exact below_box _
        have NB := Lib.hid (show Cur3 x2 x1.heap.size (.slice none 0 0) (.int .i64 0) (.int .i64 0) by rw [← hux2]; exact Cur3.new x1 _ _ _ _)
        have T2 := Lib.hid (T1.out.call hbx2)
        have RDb := Lib.hid (RD.out.under hbx2)
        have LE := Lib.hid (show w0.heap.size ≤ x1.heap.size ∧ x1.heap.size < x2.heap.size from ⟨L2.out, by rw [← hux2]; simp⟩)
        rw [hvx2]
        clear hux2 hvx2
        refine hK.out _ _ (mqs_of T2.out) (fun hHeld2 => ?_)
        clear hK K hHeld1 hbx2
        try simp only [Act.put, List.getElem_toArray, List.getElem_cons_zero, List.getElem_cons_succ, List.setIfInBounds_toArray, List.set_cons_zero, List.set_cons_succ]
        refine wpAnyK_step (i := 3) rfl (by kernel_rfl) (fun K hK => ?_)
        go_simp
        with_reducible refine (rsum_day8 af nf capf zf pf jf OF.out.1 ad nd capd zd pd jd OD.out.1 OF.out.2 OD.out.2 _ T2.out.f.row RDb.out).mono ?_
        rintro e x3 ⟨ax, nx, capx, zx, px, jx, rfl, hb, hr, hf, hx⟩
        have T3 := Lib.hid (T2.out.call hb)
        have RX := Lib.hid hr
        have HFX := Lib.hid hf
        have XX := Lib.hid (show ∀ y, ax = some y → x2.heap.size ≤ y.block from hx)
        have L3 := Lib.hid (show x2.heap.size ≤ x3.heap.size from hb.size)
        have NBs := Lib.hid (NB.out.below hb)
        refine hK.out _ _ (mqs_of T3.out) (fun hHeld3 => ?_)
        clear hK K hHeld2 hb hr hf hx
        try simp only [Act.put, List.getElem_toArray, List.getElem_cons_zero, List.getElem_cons_succ, List.setIfInBounds_toArray, List.set_cons_zero, List.set_cons_succ]
        refine wpAnyK_take (i := 4) (v := ?_) rfl (by kernel_rfl) (fun _ _ _ h => h) (Or.inl ⟨by rfl, ?_⟩) (by assumption) ?_
        rotate_left
        · (intro w hSw; (try dsimp only at hSw); go_simp; try with_reducible rfl)
        try simp only [Act.put, List.getElem_toArray, List.getElem_cons_zero, List.getElem_cons_succ, List.setIfInBounds_toArray, List.set_cons_zero, List.set_cons_succ]
        refine wpAnyK_take (i := 5) (v := ?_) rfl (by kernel_rfl) (fun _ _ _ h => h) (Or.inl ⟨by rfl, ?_⟩) (by assumption) ?_
        rotate_left
        · (intro w hSw; (try dsimp only at hSw); go_simp; try with_reducible rfl)
        try simp only [Act.put, List.getElem_toArray, List.getElem_cons_zero, List.getElem_cons_succ, List.setIfInBounds_toArray, List.set_cons_zero, List.set_cons_succ]
        refine wpAnyK_take (i := 6) (v := ?_) rfl (by kernel_rfl) (fun _ _ _ h => h) (Or.inl ⟨by rfl, ?_⟩) (by assumption) ?_
        rotate_left
        · (intro w hSw; (try dsimp only at hSw); go_simp; try with_reducible rfl)
        try simp only [Act.put, List.getElem_toArray, List.getElem_cons_zero, List.getElem_cons_succ, List.setIfInBounds_toArray, List.set_cons_zero, List.set_cons_succ]
        have h7 : w0.drew.heap.size = w0.heap.size := rfl
        have lf := Q0.out.f.box.lt
        have lg := Q0.out.g.box.lt
        have le1 := LE.out.1
        have le2 := LE.out.2
        have hFB : F < x1.heap.size := by omega
        have hGB : G < x1.heap.size := by omega
        have qx : ∀ y, ax = some y → 1 ≤ nx → y.block ≠ x1.heap.size := fun y hy hn => by have := XX.out y hy; omega
        have qf : ∀ y, af = some y → 1 ≤ nf → y.block ≠ x1.heap.size := fun y hy hn => by have := FF.out.1 y hy hn; omega
        have qg : ∀ y, ag = some y → 1 ≤ ng → y.block ≠ x1.heap.size := fun y hy hn => by have := FF.out.2 y hy hn; omega
        have hbF := T3.out.bF
        have xm : ∀ y, ax = some y → ¬ y.block = W.heap.size := fun y hy => by have := XX.out y hy; have := L2.out; have := LE.out; have := Q0.out.f.box.lt; have := Q0.out.bF; have h7 : w0.drew.heap.size = w0.heap.size := rfl; omega
        have HP := Lib.hid (show MR W W.heap.size F G af nf capf zf pf jf ag ng capg zg pg jg ra rn rc x1.heap.size ax nx capx zx px jx (((x3.setCell ⟨x1.heap.size, 0, none⟩ (.slice ax nx capx)).setCell ⟨x1.heap.size, 1, none⟩ (.int .i64 px)).setCell ⟨x1.heap.size, 2, none⟩ (.int .i64 jx)) from ⟨((T3.out.other hFB hGB qf qg _ _).other hFB hGB qf qg _ _).other hFB hGB qf qg _ _, ⟨NBs.out.set _ _ _, ((RX.out.store qx _ _).store qx _ _).store qx _ _⟩, by omega, xm⟩)
        have HQ := Lib.hid (show ∀ y, ax = some y → 1 ≤ nx → y.block < (((x3.setCell ⟨x1.heap.size, 0, none⟩ (.slice ax nx capx)).setCell ⟨x1.heap.size, 1, none⟩ (.int .i64 px)).setCell ⟨x1.heap.size, 2, none⟩ (.int .i64 jx)).heap.size from HP.out.m.row.far)
        have HGR := Lib.hid (grown_of OD.out.1 OF.out.2 OD.out.2 HFX.out)
        obtain ⟨n0, n1, n2, n3, n4, n5⟩ := NBs.out
        clear qx qf qg le1 le2 lf lg h7
        refine wpAnyK_step (i := 8) rfl (by kernel_rfl) (fun K hK => ?_)
        go_simp
        refine hK.out _ _ (mqs_of HP.out.q) (fun hHeld9 => ?_)
        clear hK K hHeld3
        try simp only [Act.put, List.getElem_toArray, List.getElem_cons_zero, List.getElem_cons_succ, List.setIfInBounds_toArray, List.set_cons_zero, List.set_cons_succ]
        refine wpAnyK_done (by kernel_rfl) ?_
        simp only [List.drop_succ_cons, List.drop_zero]
        clear hHeld9
        go_wp2_with fail
        go_meet
        exact ⟨x1.heap.size, ax, nx, capx, zx, px, jx, rfl, rfl, hFB, hGB, HGR, HQ, HP⟩
    · go_simp
      obtain ⟨x1, hvx1⟩ : ∃ W', (w0.alloc (.cells #[.slice none 0 0, .int .i64 0, .int .i64 0] 24)).drew = W' := ⟨_, rfl⟩
      have hux1 : w0.drew.alloc (.cells #[.slice none 0 0, .int .i64 0, .int .i64 0] 24) = x1 := hvx1
      have hbx1 : Below w0.drew.heap.size w0.drew x1 := by rw [← hux1]; exact below_box _
      have NB := Lib.hid (show Cur3 x1 w0.heap.size (.slice none 0 0) (.int .i64 0) (.int .i64 0) by rw [← hux1]; exact Cur3.new w0.drew _ _ _ _)
      have T1 := Lib.hid (Q0.out.call hbx1)
      have LE := Lib.hid (show w0.heap.size ≤ w0.drew.heap.size ∧ w0.drew.heap.size < x1.heap.size from ⟨Nat.le_refl _, by rw [← hux1]; simp⟩)
      rw [hvx1]
      clear hux1 hvx1
      refine hK.out _ _ (mqs_of T1.out) (fun hHeld1 => ?_)
      clear hK K hHeld0 hbx1
      try simp only [Act.put, List.getElem_toArray, List.getElem_cons_zero, List.getElem_cons_succ, List.setIfInBounds_toArray, List.set_cons_zero, List.set_cons_succ]
      refine wpAnyK_step (i := 2) rfl (by kernel_rfl) (fun K hK => ?_)
      go_simp
      refine (curve_any 3 (by omega) (by omega) _ ra rn rc _ T1.out.src).mono ?_
      rintro e x2 ⟨ad, nd, capd, zd, pd, jd, rfl, hs, he, hr, ok, hx⟩
      have OD := Lib.hid (And.intro ok.good ((drawn_nice ok (by omega)).le (show (10000 : Int) ≤ 500000 by omega)))
      clear ok
      have T2 := Lib.hid (T1.out.read hs he)
      have RD := Lib.hid hr
      have L2 := Lib.hid (show x1.heap.size ≤ x2.heap.size from he.size)
      have NBr := Lib.hid (NB.out.apart he (by have := LE.out.1; have := Q0.out.f.box.lt; have := Q0.out.bF; show _ ≠ _; have h7 : w0.drew.heap.size = w0.heap.size := rfl; omega))
      refine hK.out _ _ (mqs_of T2.out) (fun hHeld2 => ?_)
      clear hK K hHeld1 hs he hr hx
      try simp only [Act.put, List.getElem_toArray, List.getElem_cons_zero, List.getElem_cons_succ, List.setIfInBounds_toArray, List.set_cons_zero, List.set_cons_succ]
      refine wpAnyK_step (i := 3) rfl (by kernel_rfl) (fun K hK => ?_)
      go_simp
      with_reducible refine (rsum_day8 af nf capf zf pf jf OF.out.1 ad nd capd zd pd jd OD.out.1 OF.out.2 OD.out.2 _ T2.out.f.row RD.out).mono ?_
      rintro e x3 ⟨ax, nx, capx, zx, px, jx, rfl, hb, hr, hf, hx⟩
      have T3 := Lib.hid (T2.out.call hb)
      have RX := Lib.hid hr
      have HFX := Lib.hid hf
      have XX := Lib.hid (show ∀ y, ax = some y → x2.heap.size ≤ y.block from hx)
      have L3 := Lib.hid (show x2.heap.size ≤ x3.heap.size from hb.size)
      have NBrs := Lib.hid (NBr.out.below hb)
      refine hK.out _ _ (mqs_of T3.out) (fun hHeld3 => ?_)
      clear hK K hHeld2 hb hr hf hx
      try simp only [Act.put, List.getElem_toArray, List.getElem_cons_zero, List.getElem_cons_succ, List.setIfInBounds_toArray, List.set_cons_zero, List.set_cons_succ]
      refine wpAnyK_take (i := 4) (v := ?_) rfl (by kernel_rfl) (fun _ _ _ h => h) (Or.inl ⟨by rfl, ?_⟩) (by assumption) ?_
      rotate_left
      · (intro w hSw; (try dsimp only at hSw); go_simp; try with_reducible rfl)
      try simp only [Act.put, List.getElem_toArray, List.getElem_cons_zero, List.getElem_cons_succ, List.setIfInBounds_toArray, List.set_cons_zero, List.set_cons_succ]
      refine wpAnyK_take (i := 5) (v := ?_) rfl (by kernel_rfl) (fun _ _ _ h => h) (Or.inl ⟨by rfl, ?_⟩) (by assumption) ?_
      rotate_left
      · (intro w hSw; (try dsimp only at hSw); go_simp; try with_reducible rfl)
      try simp only [Act.put, List.getElem_toArray, List.getElem_cons_zero, List.getElem_cons_succ, List.setIfInBounds_toArray, List.set_cons_zero, List.set_cons_succ]
      refine wpAnyK_take (i := 6) (v := ?_) rfl (by kernel_rfl) (fun _ _ _ h => h) (Or.inl ⟨by rfl, ?_⟩) (by assumption) ?_
      rotate_left
      · (intro w hSw; (try dsimp only at hSw); go_simp; try with_reducible rfl)
      try simp only [Act.put, List.getElem_toArray, List.getElem_cons_zero, List.getElem_cons_succ, List.setIfInBounds_toArray, List.set_cons_zero, List.set_cons_succ]
      have h7 : w0.drew.heap.size = w0.heap.size := rfl
      have lf := Q0.out.f.box.lt
      have lg := Q0.out.g.box.lt
      have le1 := LE.out.1
      have le2 := LE.out.2
      have hFB : F < w0.heap.size := by omega
      have hGB : G < w0.heap.size := by omega
      have qx : ∀ y, ax = some y → 1 ≤ nx → y.block ≠ w0.heap.size := fun y hy hn => by have := XX.out y hy; have := L2.out; omega
      have qf : ∀ y, af = some y → 1 ≤ nf → y.block ≠ w0.heap.size := fun y hy hn => by have := FF.out.1 y hy hn; omega
      have qg : ∀ y, ag = some y → 1 ≤ ng → y.block ≠ w0.heap.size := fun y hy hn => by have := FF.out.2 y hy hn; omega
      have hbF := T3.out.bF
      have xm : ∀ y, ax = some y → ¬ y.block = W.heap.size := fun y hy => by have := XX.out y hy; have := L2.out; have := LE.out; have := Q0.out.f.box.lt; have := Q0.out.bF; have h7 : w0.drew.heap.size = w0.heap.size := rfl; omega
      have HP := Lib.hid (show MR W W.heap.size F G af nf capf zf pf jf ag ng capg zg pg jg ra rn rc w0.heap.size ax nx capx zx px jx (((x3.setCell ⟨w0.heap.size, 0, none⟩ (.slice ax nx capx)).setCell ⟨w0.heap.size, 1, none⟩ (.int .i64 px)).setCell ⟨w0.heap.size, 2, none⟩ (.int .i64 jx)) from ⟨((T3.out.other hFB hGB qf qg _ _).other hFB hGB qf qg _ _).other hFB hGB qf qg _ _, ⟨NBrs.out.set _ _ _, ((RX.out.store qx _ _).store qx _ _).store qx _ _⟩, by omega, xm⟩)
      have HQ := Lib.hid (show ∀ y, ax = some y → 1 ≤ nx → y.block < (((x3.setCell ⟨w0.heap.size, 0, none⟩ (.slice ax nx capx)).setCell ⟨w0.heap.size, 1, none⟩ (.int .i64 px)).setCell ⟨w0.heap.size, 2, none⟩ (.int .i64 jx)).heap.size from HP.out.m.row.far)
      have HGR := Lib.hid (grown_of OD.out.1 OF.out.2 OD.out.2 HFX.out)
      obtain ⟨n0, n1, n2, n3, n4, n5⟩ := NBrs.out
      clear qx qf qg le1 le2 lf lg h7
      refine wpAnyK_step (i := 8) rfl (by kernel_rfl) (fun K hK => ?_)
      go_simp
      refine hK.out _ _ (mqs_of HP.out.q) (fun hHeld9 => ?_)
      clear hK K hHeld3
      try simp only [Act.put, List.getElem_toArray, List.getElem_cons_zero, List.getElem_cons_succ, List.setIfInBounds_toArray, List.set_cons_zero, List.set_cons_succ]
      refine wpAnyK_done (by kernel_rfl) ?_
      simp only [List.drop_succ_cons, List.drop_zero]
      clear hHeld9
      go_wp2_with fail
      go_meet
      exact ⟨w0.heap.size, ax, nx, capx, zx, px, jx, rfl, rfl, hFB, hGB, HGR, HQ, HP⟩
  case rest =>
  obtain ⟨M, am, nm, capm, zm, pm, jm, rfl, rfl, hFM, hGM, HM, FM, R0⟩ := hcut
  obtain ⟨w1, rfl⟩ : ∃ u : World, u = wc := ⟨_, rfl⟩
  clear Q0
  have Q1 := Lib.hid (R0.out.call (Below.refl _ _).drew)
  go_upto_region 4 with fail
  go_cut [8, 9] (fun s8 s9 wx => ∃ (T : Nat) (as1 : Option Addr) (ns caps : Nat) (zs : List Int) (ps : Nat) (js : Int), s8 = .pointer (some ⟨T, 0, none⟩) ∧ s9 = .int .i64 0 ∧ Hid (Grown zg pg jg zs ps js) ∧ Hid (eC zs ps js 0 = some 0) ∧ Hid (Bx wx T as1 ns caps ps js zs) ∧ Hid (MR W W.heap.size F G af nf capf zf pf jf ag ng capg zg pg jg ra rn rc M am nm capm zm pm jm wx))
  case first =>
    refine wp_region_keeps (fun u => MRS W W.heap.size F G af nf capf zf pf jf ag ng capg zg pg jg ra rn rc M am nm capm zm pm jm u) 9 1 (by kernel_rfl) (by kernel_rfl) (mrs_of Q1.out) (fun hHeld0 => ?_)
    refine wpAnyK_take (i := 0) (v := ?_) rfl (by kernel_rfl) (fun _ _ _ h => h) (Or.inl ⟨by rfl, ?_⟩) (by assumption) ?_
    rotate_left
    · (intro w hSw; (try dsimp only at hSw); go_simp; try with_reducible rfl)
    try simp only [Act.put, List.getElem_toArray, List.getElem_cons_zero, List.getElem_cons_succ, List.setIfInBounds_toArray, List.set_cons_zero, List.set_cons_succ]
    refine wpAnyK_take (i := 1) (v := ?_) rfl (by kernel_rfl) (fun _ _ _ h => h) (Or.inl ⟨by rfl, ?_⟩) (by assumption) ?_
    rotate_left
    · (intro w hSw; (try dsimp only at hSw); go_simp; try with_reducible rfl)
    try simp only [Act.put, List.getElem_toArray, List.getElem_cons_zero, List.getElem_cons_succ, List.setIfInBounds_toArray, List.set_cons_zero, List.set_cons_succ]
    refine wpAnyK_two (i := 2) (j := 7) rfl rfl (by kernel_rfl) (fun K hK => ?_) (fun K hK => ?_)
    · go_simp
      refine (zero_any2 3 (by omega) (by omega) _ ra rn rc _ Q1.out.q.src).mono ?_
      rintro e x1 ⟨ad, nd, capd, zd, pd, jd, rfl, hs, he, hr, hg, hnf, h0, hsm, hx⟩
      have OD := Lib.hid (And.intro hg (zero_nice hg hnf hsm))
      have ZD := Lib.hid (show eC zd pd jd 0 = some 0 by rw [eC_fin hnf, atC_lt (by have := hg.p1; have := hg.p3; omega), h0])
      clear hg hnf h0 hsm
      have T1 := Lib.hid (Q1.out.read hs he)
      have RD := Lib.hid hr
      have L2 := Lib.hid (show w1.drew.heap.size ≤ x1.heap.size from he.size)
      refine hK.out _ _ (mrs_of T1.out) (fun hHeld1 => ?_)
      clear hK K hHeld0 hs he hr hx
      try simp only [Act.put, List.getElem_toArray, List.getElem_cons_zero, List.getElem_cons_succ, List.setIfInBounds_toArray, List.set_cons_zero, List.set_cons_succ]
      refine wpAnyK_two (i := 3) (j := 7) rfl rfl (by kernel_rfl) (fun K hK => ?_) (fun K hK => ?_)
      · go_simp
        with_reducible refine (rsum_day8 ag ng capg zg pg jg OG.out.1 ad nd capd zd pd jd OD.out.1 OG.out.2.1 OD.out.2 _ T1.out.q.g.row RD.out).mono ?_
        rintro e x2 ⟨ax, nx, capx, zx, px, jx, rfl, hb, hr, hf, hx⟩
        have T2 := Lib.hid (T1.out.call hb)
        have RX := Lib.hid hr
        have HFX := Lib.hid hf
        have XX := Lib.hid (show ∀ y, ax = some y → x1.heap.size ≤ y.block from hx)
        have L3 := Lib.hid (show x1.heap.size ≤ x2.heap.size from hb.size)
        refine hK.out _ _ (mrs_of T2.out) (fun hHeld2 => ?_)
        clear hK K hHeld1 hb hr hf hx
        try simp only [Act.put, List.getElem_toArray, List.getElem_cons_zero, List.getElem_cons_succ, List.setIfInBounds_toArray, List.set_cons_zero, List.set_cons_succ]
        refine wpAnyK_take (i := 4) (v := ?_) rfl (by kernel_rfl) (fun _ _ _ h => h) (Or.inl ⟨by rfl, ?_⟩) (by assumption) ?_
        rotate_left
        · (intro w hSw; (try dsimp only at hSw); go_simp; try with_reducible rfl)
        try simp only [Act.put, List.getElem_toArray, List.getElem_cons_zero, List.getElem_cons_succ, List.setIfInBounds_toArray, List.set_cons_zero, List.set_cons_succ]
        refine wpAnyK_take (i := 5) (v := ?_) rfl (by kernel_rfl) (fun _ _ _ h => h) (Or.inl ⟨by rfl, ?_⟩) (by assumption) ?_
        rotate_left
        · (intro w hSw; (try dsimp only at hSw); go_simp; try with_reducible rfl)
        try simp only [Act.put, List.getElem_toArray, List.getElem_cons_zero, List.getElem_cons_succ, List.setIfInBounds_toArray, List.set_cons_zero, List.set_cons_succ]
        refine wpAnyK_take (i := 6) (v := ?_) rfl (by kernel_rfl) (fun _ _ _ h => h) (Or.inl ⟨by rfl, ?_⟩) (by assumption) ?_
        rotate_left
        · (intro w hSw; (try dsimp only at hSw); go_simp; try with_reducible rfl)
        try simp only [Act.put, List.getElem_toArray, List.getElem_cons_zero, List.getElem_cons_succ, List.setIfInBounds_toArray, List.set_cons_zero, List.set_cons_succ]
        refine wpAnyK_step (i := 7) rfl (by kernel_rfl) (fun K hK => ?_)
        go_simp
        obtain ⟨x3, hux3⟩ : ∃ W', x2.alloc (.cells #[.slice none 0 0, .int .i64 0, .int .i64 0] 24) = W' := ⟨_, rfl⟩
        have hvx3 := hux3
        have hbx3 : Below x2.heap.size x2 x3 := by rw [← hux3]; exact below_box _
        have NB := Lib.hid (show Cur3 x3 x2.heap.size (.slice none 0 0) (.int .i64 0) (.int .i64 0) by rw [← hux3]; exact Cur3.new x2 _ _ _ _)
        have T3 := Lib.hid (T2.out.call hbx3)
        have RXb := Lib.hid (RX.out.under hbx3)
        have LE := Lib.hid (show w1.heap.size ≤ x2.heap.size ∧ x2.heap.size < x3.heap.size from ⟨Nat.le_trans L2.out L3.out, by rw [← hux3]; simp⟩)
        rw [hvx3]
        clear hux3 hvx3
        refine hK.out _ _ (mrs_of T3.out) (fun hHeld3 => ?_)
        clear hK K hHeld2 hbx3
        try simp only [Act.put, List.getElem_toArray, List.getElem_cons_zero, List.getElem_cons_succ, List.setIfInBounds_toArray, List.set_cons_zero, List.set_cons_succ]
        have h7 : w1.drew.heap.size = w1.heap.size := rfl
        have lf := Q1.out.q.f.box.lt
        have lg := Q1.out.q.g.box.lt
        have le1 := LE.out.1
        have le2 := LE.out.2
        have hFB : F < x2.heap.size := by omega
        have hGB : G < x2.heap.size := by omega
        have qx : ∀ y, ax = some y → 1 ≤ nx → y.block ≠ x2.heap.size := fun y hy hn => by have := RX.out.far y hy hn; omega
        have qf : ∀ y, af = some y → 1 ≤ nf → y.block ≠ x2.heap.size := fun y hy hn => by have := FF.out.1 y hy hn; omega
        have qg : ∀ y, ag = some y → 1 ≤ ng → y.block ≠ x2.heap.size := fun y hy hn => by have := FF.out.2 y hy hn; omega
        have lm := Q1.out.m.box.lt
        have hMB : M < x2.heap.size := by omega
        have qm : ∀ y, am = some y → 1 ≤ nm → y.block ≠ x2.heap.size := fun y hy hn => by have := FM.out y hy hn; omega
        have HP := Lib.hid (show MR W W.heap.size F G af nf capf zf pf jf ag ng capg zg pg jg ra rn rc M am nm capm zm pm jm (((x3.setCell ⟨x2.heap.size, 0, none⟩ (.slice ax nx capx)).setCell ⟨x2.heap.size, 1, none⟩ (.int .i64 px)).setCell ⟨x2.heap.size, 2, none⟩ (.int .i64 jx)) from ((T3.out.other hFB hGB hMB qf qg qm _ _).other hFB hGB hMB qf qg qm _ _).other hFB hGB hMB qf qg qm _ _)
        have HX8 := Lib.hid (show Bx (((x3.setCell ⟨x2.heap.size, 0, none⟩ (.slice ax nx capx)).setCell ⟨x2.heap.size, 1, none⟩ (.int .i64 px)).setCell ⟨x2.heap.size, 2, none⟩ (.int .i64 jx)) x2.heap.size ax nx capx px jx zx from ⟨NB.out.set _ _ _, ((RXb.out.store qx _ _).store qx _ _).store qx _ _⟩)
        have HGR := Lib.hid (grown_of OD.out.1 OG.out.2.1 OD.out.2 HFX.out)
        have HZ8 := Lib.hid (show eC zx px jx 0 = some 0 by rw [HFX.out.val]; unfold eSum; rw [eC_zero0 OG.out.1 OG.out.2.2, ZD.out]; rfl)
        obtain ⟨n0, n1, n2, n3, n4, n5⟩ := NB.out
        clear qx qf qg le1 le2 lf lg h7 lm hMB qm
        refine wpAnyK_step (i := 8) rfl (by kernel_rfl) (fun K hK => ?_)
        go_simp
        refine hK.out _ _ (mrs_of HP.out) (fun hHeld9 => ?_)
        clear hK K hHeld3
        try simp only [Act.put, List.getElem_toArray, List.getElem_cons_zero, List.getElem_cons_succ, List.setIfInBounds_toArray, List.set_cons_zero, List.set_cons_succ]
        refine wpAnyK_done (by kernel_rfl) ?_
        simp only [List.drop_succ_cons, List.drop_zero]
        clear hHeld9
        go_wp2_with fail
        go_meet
        exact ⟨x2.heap.size, ax, nx, capx, zx, px, jx, rfl, rfl, HGR, HZ8, HX8, HP⟩
      · go_simp
        obtain ⟨x2, hux2⟩ : ∃ W', x1.alloc (.cells #[.slice none 0 0, .int .i64 0, .int .i64 0] 24) = W' := ⟨_, rfl⟩
        have hvx2 := hux2
        have hbx2 : Below x1.heap.size x1 x2 := by rw [← hux2]; exact below_box _
        have NB := Lib.hid (show Cur3 x2 x1.heap.size (.slice none 0 0) (.int .i64 0) (.int .i64 0) by rw [← hux2]; exact Cur3.new x1 _ _ _ _)
        have T2 := Lib.hid (T1.out.call hbx2)
        have RDb := Lib.hid (RD.out.under hbx2)
        have LE := Lib.hid (show w1.heap.size ≤ x1.heap.size ∧ x1.heap.size < x2.heap.size from ⟨L2.out, by rw [← hux2]; simp⟩)
        rw [hvx2]
        clear hux2 hvx2
        refine hK.out _ _ (mrs_of T2.out) (fun hHeld2 => ?_)
        clear hK K hHeld1 hbx2
        try simp only [Act.put, List.getElem_toArray, List.getElem_cons_zero, List.getElem_cons_succ, List.setIfInBounds_toArray, List.set_cons_zero, List.set_cons_succ]
        refine wpAnyK_step (i := 3) rfl (by kernel_rfl) (fun K hK => ?_)
        go_simp
        with_reducible refine (rsum_day8 ag ng capg zg pg jg OG.out.1 ad nd capd zd pd jd OD.out.1 OG.out.2.1 OD.out.2 _ T2.out.q.g.row RDb.out).mono ?_
        rintro e x3 ⟨ax, nx, capx, zx, px, jx, rfl, hb, hr, hf, hx⟩
        have T3 := Lib.hid (T2.out.call hb)
        have RX := Lib.hid hr
        have HFX := Lib.hid hf
        have XX := Lib.hid (show ∀ y, ax = some y → x2.heap.size ≤ y.block from hx)
        have L3 := Lib.hid (show x2.heap.size ≤ x3.heap.size from hb.size)
        have NBs := Lib.hid (NB.out.below hb)
        refine hK.out _ _ (mrs_of T3.out) (fun hHeld3 => ?_)
        clear hK K hHeld2 hb hr hf hx
        try simp only [Act.put, List.getElem_toArray, List.getElem_cons_zero, List.getElem_cons_succ, List.setIfInBounds_toArray, List.set_cons_zero, List.set_cons_succ]
        refine wpAnyK_take (i := 4) (v := ?_) rfl (by kernel_rfl) (fun _ _ _ h => h) (Or.inl ⟨by rfl, ?_⟩) (by assumption) ?_
        rotate_left
        · (intro w hSw; (try dsimp only at hSw); go_simp; try with_reducible rfl)
        try simp only [Act.put, List.getElem_toArray, List.getElem_cons_zero, List.getElem_cons_succ, List.setIfInBounds_toArray, List.set_cons_zero, List.set_cons_succ]
        refine wpAnyK_take (i := 5) (v := ?_) rfl (by kernel_rfl) (fun _ _ _ h => h) (Or.inl ⟨by rfl, ?_⟩) (by assumption) ?_
        rotate_left
        · (intro w hSw; (try dsimp only at hSw); go_simp; try with_reducible rfl)
        try simp only [Act.put, List.getElem_toArray, List.getElem_cons_zero, List.getElem_cons_succ, List.setIfInBounds_toArray, List.set_cons_zero, List.set_cons_succ]
        refine wpAnyK_take (i := 6) (v := ?_) rfl (by kernel_rfl) (fun _ _ _ h => h) (Or.inl ⟨by rfl, ?_⟩) (by assumption) ?_
        rotate_left
        · (intro w hSw; (try dsimp only at hSw); go_simp; try with_reducible rfl)
        try simp only [Act.put, List.getElem_toArray, List.getElem_cons_zero, List.getElem_cons_succ, List.setIfInBounds_toArray, List.set_cons_zero, List.set_cons_succ]
        have h7 : w1.drew.heap.size = w1.heap.size := rfl
        have lf := Q1.out.q.f.box.lt
        have lg := Q1.out.q.g.box.lt
        have le1 := LE.out.1
        have le2 := LE.out.2
        have hFB : F < x1.heap.size := by omega
        have hGB : G < x1.heap.size := by omega
        have qx : ∀ y, ax = some y → 1 ≤ nx → y.block ≠ x1.heap.size := fun y hy hn => by have := XX.out y hy; omega
        have qf : ∀ y, af = some y → 1 ≤ nf → y.block ≠ x1.heap.size := fun y hy hn => by have := FF.out.1 y hy hn; omega
        have qg : ∀ y, ag = some y → 1 ≤ ng → y.block ≠ x1.heap.size := fun y hy hn => by have := FF.out.2 y hy hn; omega
        have lm := Q1.out.m.box.lt
        have hMB : M < x1.heap.size := by omega
        have qm : ∀ y, am = some y → 1 ≤ nm → y.block ≠ x1.heap.size := fun y hy hn => by have := FM.out y hy hn; omega
        have HP := Lib.hid (show MR W W.heap.size F G af nf capf zf pf jf ag ng capg zg pg jg ra rn rc M am nm capm zm pm jm (((x3.setCell ⟨x1.heap.size, 0, none⟩ (.slice ax nx capx)).setCell ⟨x1.heap.size, 1, none⟩ (.int .i64 px)).setCell ⟨x1.heap.size, 2, none⟩ (.int .i64 jx)) from ((T3.out.other hFB hGB hMB qf qg qm _ _).other hFB hGB hMB qf qg qm _ _).other hFB hGB hMB qf qg qm _ _)
        have HX8 := Lib.hid (show Bx (((x3.setCell ⟨x1.heap.size, 0, none⟩ (.slice ax nx capx)).setCell ⟨x1.heap.size, 1, none⟩ (.int .i64 px)).setCell ⟨x1.heap.size, 2, none⟩ (.int .i64 jx)) x1.heap.size ax nx capx px jx zx from ⟨NBs.out.set _ _ _, ((RX.out.store qx _ _).store qx _ _).store qx _ _⟩)
        have HGR := Lib.hid (grown_of OD.out.1 OG.out.2.1 OD.out.2 HFX.out)
        have HZ8 := Lib.hid (show eC zx px jx 0 = some 0 by rw [HFX.out.val]; unfold eSum; rw [eC_zero0 OG.out.1 OG.out.2.2, ZD.out]; rfl)
        obtain ⟨n0, n1, n2, n3, n4, n5⟩ := NBs.out
        clear qx qf qg le1 le2 lf lg h7 lm hMB qm
        refine wpAnyK_step (i := 8) rfl (by kernel_rfl) (fun K hK => ?_)
        go_simp
        refine hK.out _ _ (mrs_of HP.out) (fun hHeld9 => ?_)
        clear hK K hHeld3
        try simp only [Act.put, List.getElem_toArray, List.getElem_cons_zero, List.getElem_cons_succ, List.setIfInBounds_toArray, List.set_cons_zero, List.set_cons_succ]
        refine wpAnyK_done (by kernel_rfl) ?_
        simp only [List.drop_succ_cons, List.drop_zero]
        clear hHeld9
        go_wp2_with fail
        go_meet
        exact ⟨x1.heap.size, ax, nx, capx, zx, px, jx, rfl, rfl, HGR, HZ8, HX8, HP⟩
    · go_simp
      obtain ⟨x1, hvx1⟩ : ∃ W', (w1.alloc (.cells #[.slice none 0 0, .int .i64 0, .int .i64 0] 24)).drew = W' := ⟨_, rfl⟩
      have hux1 : w1.drew.alloc (.cells #[.slice none 0 0, .int .i64 0, .int .i64 0] 24) = x1 := hvx1
      have hbx1 : Below w1.drew.heap.size w1.drew x1 := by rw [← hux1]; exact below_box _
      have NB := Lib.hid (show Cur3 x1 w1.heap.size (.slice none 0 0) (.int .i64 0) (.int .i64 0) by rw [← hux1]; exact Cur3.new w1.drew _ _ _ _)
      have T1 := Lib.hid (Q1.out.call hbx1)
      have LE := Lib.hid (show w1.heap.size ≤ w1.drew.heap.size ∧ w1.drew.heap.size < x1.heap.size from ⟨Nat.le_refl _, by rw [← hux1]; simp⟩)
      rw [hvx1]
      clear hux1 hvx1
      refine hK.out _ _ (mrs_of T1.out) (fun hHeld1 => ?_)
      clear hK K hHeld0 hbx1
      try simp only [Act.put, List.getElem_toArray, List.getElem_cons_zero, List.getElem_cons_succ, List.setIfInBounds_toArray, List.set_cons_zero, List.set_cons_succ]
      refine wpAnyK_step (i := 2) rfl (by kernel_rfl) (fun K hK => ?_)
      go_simp
      refine (zero_any2 3 (by omega) (by omega) _ ra rn rc _ T1.out.q.src).mono ?_
      rintro e x2 ⟨ad, nd, capd, zd, pd, jd, rfl, hs, he, hr, hg, hnf, h0, hsm, hx⟩
      have OD := Lib.hid (And.intro hg (zero_nice hg hnf hsm))
      have ZD := Lib.hid (show eC zd pd jd 0 = some 0 by rw [eC_fin hnf, atC_lt (by have := hg.p1; have := hg.p3; omega), h0])
      clear hg hnf h0 hsm
      have T2 := Lib.hid (T1.out.read hs he)
      have RD := Lib.hid hr
      have L2 := Lib.hid (show x1.heap.size ≤ x2.heap.size from he.size)
      have NBr := Lib.hid (NB.out.apart he (by have := LE.out.1; have := Q1.out.q.f.box.lt; have := Q1.out.q.bF; show _ ≠ _; have h7 : w1.drew.heap.size = w1.heap.size := rfl; omega))
      refine hK.out _ _ (mrs_of T2.out) (fun hHeld2 => ?_)
      clear hK K hHeld1 hs he hr hx
      try simp only [Act.put, List.getElem_toArray, List.getElem_cons_zero, List.getElem_cons_succ, List.setIfInBounds_toArray, List.set_cons_zero, List.set_cons_succ]
      refine wpAnyK_step (i := 3) rfl (by kernel_rfl) (fun K hK => ?_)
      go_simp
      with_reducible refine (rsum_day8 ag ng capg zg pg jg OG.out.1 ad nd capd zd pd jd OD.out.1 OG.out.2.1 OD.out.2 _ T2.out.q.g.row RD.out).mono ?_
      rintro e x3 ⟨ax, nx, capx, zx, px, jx, rfl, hb, hr, hf, hx⟩
      have T3 := Lib.hid (T2.out.call hb)
      have RX := Lib.hid hr
      have HFX := Lib.hid hf
      have XX := Lib.hid (show ∀ y, ax = some y → x2.heap.size ≤ y.block from hx)
      have L3 := Lib.hid (show x2.heap.size ≤ x3.heap.size from hb.size)
      have NBrs := Lib.hid (NBr.out.below hb)
      refine hK.out _ _ (mrs_of T3.out) (fun hHeld3 => ?_)
      clear hK K hHeld2 hb hr hf hx
      try simp only [Act.put, List.getElem_toArray, List.getElem_cons_zero, List.getElem_cons_succ, List.setIfInBounds_toArray, List.set_cons_zero, List.set_cons_succ]
      refine wpAnyK_take (i := 4) (v := ?_) rfl (by kernel_rfl) (fun _ _ _ h => h) (Or.inl ⟨by rfl, ?_⟩) (by assumption) ?_
      rotate_left
      · (intro w hSw; (try dsimp only at hSw); go_simp; try with_reducible rfl)
      try simp only [Act.put, List.getElem_toArray, List.getElem_cons_zero, List.getElem_cons_succ, List.setIfInBounds_toArray, List.set_cons_zero, List.set_cons_succ]
      refine wpAnyK_take (i := 5) (v := ?_) rfl (by kernel_rfl) (fun _ _ _ h => h) (Or.inl ⟨by rfl, ?_⟩) (by assumption) ?_
      rotate_left
      · (intro w hSw; (try dsimp only at hSw); go_simp; try with_reducible rfl)
      try simp only [Act.put, List.getElem_toArray, List.getElem_cons_zero, List.getElem_cons_succ, List.setIfInBounds_toArray, List.set_cons_zero, List.set_cons_succ]
      refine wpAnyK_take (i := 6) (v := ?_) rfl (by kernel_rfl) (fun _ _ _ h => h) (Or.inl ⟨by rfl, ?_⟩) (by assumption) ?_
      rotate_left
      · (intro w hSw; (try dsimp only at hSw); go_simp; try with_reducible rfl)
      try simp only [Act.put, List.getElem_toArray, List.getElem_cons_zero, List.getElem_cons_succ, List.setIfInBounds_toArray, List.set_cons_zero, List.set_cons_succ]
      have h7 : w1.drew.heap.size = w1.heap.size := rfl
      have lf := Q1.out.q.f.box.lt
      have lg := Q1.out.q.g.box.lt
      have le1 := LE.out.1
      have le2 := LE.out.2
      have hFB : F < w1.heap.size := by omega
      have hGB : G < w1.heap.size := by omega
      have qx : ∀ y, ax = some y → 1 ≤ nx → y.block ≠ w1.heap.size := fun y hy hn => by have := XX.out y hy; have := L2.out; omega
      have qf : ∀ y, af = some y → 1 ≤ nf → y.block ≠ w1.heap.size := fun y hy hn => by have := FF.out.1 y hy hn; omega
      have qg : ∀ y, ag = some y → 1 ≤ ng → y.block ≠ w1.heap.size := fun y hy hn => by have := FF.out.2 y hy hn; omega
      have lm := Q1.out.m.box.lt
      have hMB : M < w1.heap.size := by omega
      have qm : ∀ y, am = some y → 1 ≤ nm → y.block ≠ w1.heap.size := fun y hy hn => by have := FM.out y hy hn; omega
      have HP := Lib.hid (show MR W W.heap.size F G af nf capf zf pf jf ag ng capg zg pg jg ra rn rc M am nm capm zm pm jm (((x3.setCell ⟨w1.heap.size, 0, none⟩ (.slice ax nx capx)).setCell ⟨w1.heap.size, 1, none⟩ (.int .i64 px)).setCell ⟨w1.heap.size, 2, none⟩ (.int .i64 jx)) from ((T3.out.other hFB hGB hMB qf qg qm _ _).other hFB hGB hMB qf qg qm _ _).other hFB hGB hMB qf qg qm _ _)
      have HX8 := Lib.hid (show Bx (((x3.setCell ⟨w1.heap.size, 0, none⟩ (.slice ax nx capx)).setCell ⟨w1.heap.size, 1, none⟩ (.int .i64 px)).setCell ⟨w1.heap.size, 2, none⟩ (.int .i64 jx)) w1.heap.size ax nx capx px jx zx from ⟨NBrs.out.set _ _ _, ((RX.out.store qx _ _).store qx _ _).store qx _ _⟩)
      have HGR := Lib.hid (grown_of OD.out.1 OG.out.2.1 OD.out.2 HFX.out)
      have HZ8 := Lib.hid (show eC zx px jx 0 = some 0 by rw [HFX.out.val]; unfold eSum; rw [eC_zero0 OG.out.1 OG.out.2.2, ZD.out]; rfl)
      obtain ⟨n0, n1, n2, n3, n4, n5⟩ := NBrs.out
      clear qx qf qg le1 le2 lf lg h7 lm hMB qm
      refine wpAnyK_step (i := 8) rfl (by kernel_rfl) (fun K hK => ?_)
      go_simp
      refine hK.out _ _ (mrs_of HP.out) (fun hHeld9 => ?_)
      clear hK K hHeld3
      try simp only [Act.put, List.getElem_toArray, List.getElem_cons_zero, List.getElem_cons_succ, List.setIfInBounds_toArray, List.set_cons_zero, List.set_cons_succ]
      refine wpAnyK_done (by kernel_rfl) ?_
      simp only [List.drop_succ_cons, List.drop_zero]
      clear hHeld9
      go_wp2_with fail
      go_meet
      exact ⟨w1.heap.size, ax, nx, capx, zx, px, jx, rfl, rfl, HGR, HZ8, HX8, HP⟩
  case rest =>
  obtain ⟨T, as1, ns, caps, zs, ps, js, rfl, rfl, HT, ZS, XT, R1⟩ := hcut
  obtain ⟨w2, rfl⟩ : ∃ u : World, u = wc := ⟨_, rfl⟩
  clear Q1 R0 FM FF SW0
  have H0S := Lib.hid (show atC zs ps js 0 = 0 from (eC_bd HT.out.good ZS.out).2.2)
  obtain ⟨c0, c1, c2, c3, c4, c5⟩ := R1.out.q.f.box
  obtain ⟨d0, d1, d2, d3, d4, d5⟩ := R1.out.q.g.box
  go_wp2_with fail
  clear c0 c1 c2 c3 c4 c5 d0 d1 d2 d3 d4 d5
  with_reducible refine ((dof_day af nf capf zf pf jf OF.out.1 ag ng capg zg pg jg OG.out.1 OG.out.2.2 OF.out.2.day OG.out.2.1.day _ R1.out.q.f.row R1.out.q.g.row).mono fun _ _ h => h.y).mono ?_
  rintro e v1 ⟨a1, n1, cap1, z1, p1, i1, c1, rfl, hb, hr, hm, hc, _⟩
  obtain ⟨x1, hw⟩ : ∃ w', v1.alloc (.cells #[.slice a1 n1 cap1, .int .i64 p1, .int .i64 i1] 24) = w' := ⟨_, rfl⟩
  have hz : Below w2.heap.size w2 x1 := by rw [← hw]; exact hb.trans ((below_box _).mono hb.size)
  have R_1 := Lib.hid (R1.out.call hz)
  have XT_1 := Lib.hid (XT.out.under hz)
  have Y1_1 := Lib.hid (show BxI x1 v1.heap.size a1 n1 cap1 p1 i1 z1 by rw [← hw]; exact BxI.new hr)
  have M1 := Lib.hid hm
  have HW1 := Lib.hid hw
  clear hb hr hm hc hz hw
  go_upto_region 8 with fail
  try rw [HW1.out]
  obtain ⟨c0, c1', c2', c3', c4, c5⟩ := R_1.out.m.box
  obtain ⟨d0, d1, d2, d3, d4, d5⟩ := R_1.out.q.g.box
  go_wp2_with fail
  clear c0 c1' c2' c3' c4 c5 d0 d1 d2 d3 d4 d5
  with_reducible refine ((dof_day am nm capm zm pm jm HM.out.good ag ng capg zg pg jg OG.out.1 OG.out.2.2 HM.out.day OG.out.2.1.day _ R_1.out.m.row R_1.out.q.g.row).mono fun _ _ h => h.y).mono ?_
  rintro e v2 ⟨a2, n2, cap2, z2, p2, i2, c2, rfl, hb, hr, hm, hc, _⟩
  obtain ⟨x2, hw⟩ : ∃ w', v2.alloc (.cells #[.slice a2 n2 cap2, .int .i64 p2, .int .i64 i2] 24) = w' := ⟨_, rfl⟩
  have hz : Below x1.heap.size x1 x2 := by rw [← hw]; exact hb.trans ((below_box _).mono hb.size)
  have R_2 := Lib.hid (R_1.out.call hz)
  have XT_2 := Lib.hid (XT_1.out.under hz)
  have Y1_2 := Lib.hid (Y1_1.out.under hz)
  have Y2_2 := Lib.hid (show BxI x2 v2.heap.size a2 n2 cap2 p2 i2 z2 by rw [← hw]; exact BxI.new hr)
  have M2 := Lib.hid hm
  have HW2 := Lib.hid hw
  clear hb hr hm hc hz hw
  go_upto_region 9 with fail
  try rw [HW2.out]
  obtain ⟨c0, c1', c2', c3', c4, c5⟩ := R_2.out.q.f.box
  obtain ⟨d0, d1, d2, d3, d4, d5⟩ := XT_2.out.box
  go_wp2_with fail
  clear c0 c1' c2' c3' c4 c5 d0 d1 d2 d3 d4 d5
  with_reducible refine ((dof_day af nf capf zf pf jf OF.out.1 as1 ns caps zs ps js HT.out.good H0S.out OF.out.2.day HT.out.day _ R_2.out.q.f.row XT_2.out.row).mono fun _ _ h => h.y).mono ?_
  rintro e v3 ⟨a3, n3, cap3, z3, p3, i3, c3, rfl, hb, hr, hm, hc, _⟩
  obtain ⟨x3, hw⟩ : ∃ w', v3.alloc (.cells #[.slice a3 n3 cap3, .int .i64 p3, .int .i64 i3] 24) = w' := ⟨_, rfl⟩
  have hz : Below x2.heap.size x2 x3 := by rw [← hw]; exact hb.trans ((below_box _).mono hb.size)
  have R_3 := Lib.hid (R_2.out.call hz)
  have XT_3 := Lib.hid (XT_2.out.under hz)
  have Y1_3 := Lib.hid (Y1_2.out.under hz)
  have Y2_3 := Lib.hid (Y2_2.out.under hz)
  have Y3_3 := Lib.hid (show BxI x3 v3.heap.size a3 n3 cap3 p3 i3 z3 by rw [← hw]; exact BxI.new hr)
  have M3 := Lib.hid hm
  have HW3 := Lib.hid hw
  clear hb hr hm hc hz hw
  go_upto_region 10 with fail
  try rw [HW3.out]
  by_cases e1 : c1 = 0
  · subst e1
    by_cases e2 : c2 = 0
    · subst e2
      by_cases e3 : c3 = 0
      · subst e3
        obtain ⟨q1, rfl, F1⟩ := my_form M1.out
        obtain ⟨q2, rfl, F2⟩ := my_form M2.out
        obtain ⟨q3, rfl, F3⟩ := my_form M3.out
        have hex1 := Lib.hid (exc_of (E := eDec zf pf jf zg pg jg) (E' := eDec zm pm jm zg pg jg) (fun t => dec_mono1 (eC_zero0 OG.out.1 OG.out.2.2) HM.out.le t) F1 F2)
        obtain ⟨b0, b1, b2, b3, b4, b5⟩ := Y1_3.out.box
        obtain ⟨d0, d1, d2, d3, d4, d5⟩ := Y2_3.out.box
        go_wp2_with fail
        clear b0 b1 b2 b3 b4 b5 d0 d1 d2 d3 d4 d5
        with_reducible refine (ratMost_ok a1 n1 cap1 z1 q1 i1 F1.good a2 n2 cap2 z2 q2 i2 F2.good 0 false _ Y1_3.out.row Y2_3.out.row hex1.out).mono ?_
        rintro e y1 ⟨rfl, hb⟩
        have Z1 := Lib.hid (Y1_3.out.under hb)
        have Z3 := Lib.hid (Y3_3.out.under hb)
        have HBX := Lib.hid (R_3.out.q.below.trans (hb.mono R_3.out.q.below.size))
        clear hb
        have hex2 := Lib.hid (exc_of (E := eDec zf pf jf zs ps js) (E' := eDec zf pf jf zg pg jg) (fun t => dec_mono2 (eC_zero0 OG.out.1 OG.out.2.2) (eC_zero0 HT.out.good H0S.out) HT.out.le t) F3 F1)
        obtain ⟨b0, b1, b2, b3, b4, b5⟩ := Z3.out.box
        obtain ⟨d0, d1, d2, d3, d4, d5⟩ := Z1.out.box
        go_wp2_with fail
        clear b0 b1 b2 b3 b4 b5 d0 d1 d2 d3 d4 d5
        with_reducible refine (ratMost_ok a3 n3 cap3 z3 q3 i3 F3.good a1 n1 cap1 z1 q1 i1 F1.good 0 false _ Z3.out.row Z1.out.row hex2.out).mono ?_
        rintro e y2 ⟨rfl, hb⟩
        have HBY := Lib.hid (HBX.out.trans (hb.mono HBX.out.size))
        clear hb
        go_wp2_with fail
        refine (awake8 _).mono ?_
        rintro e y9 ⟨rfl, hb⟩
        have HBZ := Lib.hid (HBY.out.trans (hb.mono HBY.out.size))
        clear hb
        go_wp2_with fail
        go_ret
        exact ⟨rfl, HBZ.out⟩
      · have k3 : (c3 == 0) = false := by simpa using e3
        clear e3
        obtain ⟨q1, rfl, F1⟩ := my_form M1.out
        obtain ⟨q2, rfl, F2⟩ := my_form M2.out
        have hex1 := Lib.hid (exc_of (E := eDec zf pf jf zg pg jg) (E' := eDec zm pm jm zg pg jg) (fun t => dec_mono1 (eC_zero0 OG.out.1 OG.out.2.2) HM.out.le t) F1 F2)
        obtain ⟨b0, b1, b2, b3, b4, b5⟩ := Y1_3.out.box
        obtain ⟨d0, d1, d2, d3, d4, d5⟩ := Y2_3.out.box
        go_wp2_with fail
        clear b0 b1 b2 b3 b4 b5 d0 d1 d2 d3 d4 d5
        with_reducible refine (ratMost_ok a1 n1 cap1 z1 q1 i1 F1.good a2 n2 cap2 z2 q2 i2 F2.good 0 false _ Y1_3.out.row Y2_3.out.row hex1.out).mono ?_
        rintro e y1 ⟨rfl, hb⟩
        have HBY := Lib.hid (R_3.out.q.below.trans (hb.mono R_3.out.q.below.size))
        clear hb
        go_wp2_with fail
        refine (awake8 _).mono ?_
        rintro e y9 ⟨rfl, hb⟩
        have HBZ := Lib.hid (HBY.out.trans (hb.mono HBY.out.size))
        clear hb
        go_wp2_with fail
        go_ret
        exact ⟨rfl, HBZ.out⟩
    · have k2 : (c2 == 0) = false := by simpa using e2
      clear e2
      by_cases e3 : c3 = 0
      · subst e3
        obtain ⟨q1, rfl, F1⟩ := my_form M1.out
        obtain ⟨q3, rfl, F3⟩ := my_form M3.out
        have hex2 := Lib.hid (exc_of (E := eDec zf pf jf zs ps js) (E' := eDec zf pf jf zg pg jg) (fun t => dec_mono2 (eC_zero0 OG.out.1 OG.out.2.2) (eC_zero0 HT.out.good H0S.out) HT.out.le t) F3 F1)
        obtain ⟨b0, b1, b2, b3, b4, b5⟩ := Y3_3.out.box
        obtain ⟨d0, d1, d2, d3, d4, d5⟩ := Y1_3.out.box
        go_wp2_with fail
        clear b0 b1 b2 b3 b4 b5 d0 d1 d2 d3 d4 d5
        with_reducible refine (ratMost_ok a3 n3 cap3 z3 q3 i3 F3.good a1 n1 cap1 z1 q1 i1 F1.good 0 false _ Y3_3.out.row Y1_3.out.row hex2.out).mono ?_
        rintro e y2 ⟨rfl, hb⟩
        have HBY := Lib.hid (R_3.out.q.below.trans (hb.mono R_3.out.q.below.size))
        clear hb
        go_wp2_with fail
        refine (awake8 _).mono ?_
        rintro e y9 ⟨rfl, hb⟩
        have HBZ := Lib.hid (HBY.out.trans (hb.mono HBY.out.size))
        clear hb
        go_wp2_with fail
        go_ret
        exact ⟨rfl, HBZ.out⟩
      · have k3 : (c3 == 0) = false := by simpa using e3
        clear e3
        have HBY := Lib.hid R_3.out.q.below
        go_wp2_with fail
        refine (awake8 _).mono ?_
        rintro e y9 ⟨rfl, hb⟩
        have HBZ := Lib.hid (HBY.out.trans (hb.mono HBY.out.size))
        clear hb
        go_wp2_with fail
        go_ret
        exact ⟨rfl, HBZ.out⟩
  · have k1 : (c1 == 0) = false := by simpa using e1
    clear e1
    have HBY := Lib.hid R_3.out.q.below
    go_wp2_with fail
    refine (awake8 _).mono ?_
    rintro e y9 ⟨rfl, hb⟩
    have HBZ := Lib.hid (HBY.out.trans (hb.mono HBY.out.size))
    clear hb
    go_wp2_with fail
    go_ret
    exact ⟨rfl, HBZ.out⟩

end Go.Proofs.Ytcbocglakielnaa
