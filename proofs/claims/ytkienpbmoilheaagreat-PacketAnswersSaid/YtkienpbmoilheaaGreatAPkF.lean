/- Ticks in which packets may be finished (the law's own function). By the verifier's side. -/
import Derived.Test.YtkienpbmoilheaaGreatAZeroZero3CfUCfZ
import Derived.Test.YtkienpbmoilheaaGreatAHp1PkW
import Derived.Test.YtkienpbmoilheaaGreatAAvFAvWPk1PkD
import Derived.Test.YtkienpbmoilheaaGreatABaseApartPickKeepS
namespace Go.Proofs.YtkienpbmoilheaaGreat
open Go.RowKit
set_option linter.unusedSimpArgs false
set_option linter.unusedVariables false

theorem own_apartF {u v : World} {b base : Nat} {x : Value} {k : Nat} {xs : List Value} {e : TypeId} {s : Nat} (h : u.ownsRow base e s x k xs) (ha : Apart b u v) (hb : b < base) : v.ownsRow base e s x k xs := by
  obtain ⟨hl, hr⟩ := h
  refine ⟨hl, ?_⟩
  rcases hr with h0 | ⟨g, cap, cur, hv, hbase, hg, h1, h2, h3, h4⟩
  · exact .inl h0
  · exact .inr ⟨g, cap, cur, hv, hbase, (ha.block _ (Array.getElem?_eq_some_iff.1 hg).1 (by omega)).trans hg, h1, h2, h3, h4⟩
/-- A number is put into a row of one's own. -/
theorem own_putF {w : World} {base g cap n : Nat} {D : List Int} (h : w.ownsRow base 3 1 (.slice (some ⟨g, 0, none⟩) n cap) n (D.map (Value.int .i64))) {j : Nat} (hj : j < n) (v : Int) :
    (w.setCell ⟨g, j, none⟩ (.int .i64 v)).ownsRow base 3 1 (.slice (some ⟨g, 0, none⟩) n cap) n ((D.set j v).map (Value.int .i64)) := by
  obtain ⟨hl, hr⟩ := h
  refine ⟨by simpa using hl, ?_⟩
  rcases hr with ⟨h0, _⟩ | ⟨g', cap', cur, hv, hbase, hg, h1, h2, h3, h4⟩
  · cases h0
  · cases hv
    refine .inr ⟨g, cap, cur.setIfInBounds j (.int .i64 v), rfl, hbase, by simp [World.setCell, Array.getElem?_modify, hg], h1, h2, by simpa using h3, ?_⟩
    rw [Array.toList_setIfInBounds, List.take_set, h4, List.map_set]
/-- While the ticks are drawn: the source and the list of ticks. -/
structure FnS (W : World) (b : Nat) (ra : Option Addr) (rn rc : Nat) (k : Nat) (x : Value) (wx : World) : Prop where
  src : Hld13 W b ra rn rc wx
  hb : b < W.heap.size
  hs : W.heap.size ≤ wx.heap.size
  own : ∃ D : List Int, D.length = k ∧ wx.ownsRow W.heap.size 3 1 x k (D.map (Value.int .i64)) ∧ ∀ i, i < k → -2 ≤ D.getD i 0 ∧ D.getD i 0 ≤ 5000
section
variable {W : World} {b : Nat} {ra : Option Addr} {rn rc : Nat} {k : Nat} {x : Value} {u v : World}
theorem FnS.call (h : FnS W b ra rn rc k x u) (hb : Below u.heap.size u v) : FnS W b ra rn rc k x v := by
  obtain ⟨D, h1, h2, h3⟩ := h.own
  exact ⟨hldZ_below h.src hb, h.hb, Nat.le_trans h.hs hb.size, D, h1, own_below15 h2 hb, h3⟩
theorem FnS.take (h : FnS W b ra rn rc k x u) (hs : SrcAt v b ra rn rc) (ha : Apart b u v) : FnS W b ra rn rc k x v := by
  obtain ⟨D, h1, h2, h3⟩ := h.own
  exact ⟨h.src.call hs ha, h.hb, Nat.le_trans h.hs ha.size, D, h1, own_apartF h2 ha h.hb, h3⟩
/-- One more tick behind the list. -/
theorem FnS.push (h : FnS W b ra rn rc k x u) {D : List Int} (hDl : D.length = k) (hD : ∀ i, i < k → -2 ≤ D.getD i 0 ∧ D.getD i 0 ≤ 5000) (hO : u.ownsRow W.heap.size 3 1 x k (D.map (Value.int .i64))) {z : Int} (hz : -2 ≤ z ∧ z ≤ 5000) {o : Obj} {v' : Value} {w7 : World}
    (ho : w7.ownsRow W.heap.size 3 1 v' (k + 1) (D.map (Value.int .i64) ++ [.int .i64 z])) (hg : (u.alloc o).grownBy w7 x.ownBlock) : FnS W b ra rn rc (k + 1) v' w7 := by
  have hrow : ∀ j, x.ownBlock = some j → W.heap.size ≤ j := fun j hj => (hO.lt j hj).1
  have hsz := h.hs
  have hbw : Below W.heap.size u w7 := ((Below.refl W.heap.size u).alloc h.hs _).trans (grownBy_below hg hrow (by simp; omega))
  refine ⟨(h.src.alloc _).grown h.hb hg hrow, h.hb, Nat.le_trans h.hs hbw.size, D ++ [z], by simp [hDl], by rw [List.map_append]; exact ho, fun i hi => ?_⟩
  by_cases e : i = k
  · subst e
    rw [show (D ++ [z]).getD i 0 = z from by rw [List.getD_eq_getElem?_getD, List.getElem?_append_right (by rw [hDl]; exact Nat.le_refl _), hDl]; simp]
    exact hz
  · rw [show (D ++ [z]).getD i 0 = D.getD i 0 from by rw [List.getD_eq_getElem?_getD, List.getElem?_append_left (by rw [hDl]; omega), ← List.getD_eq_getElem?_getD]]
    exact hD i (by omega)
/-- A tick is put into the list. -/
theorem FnS.put {g c : Nat} (h : FnS W b ra rn rc k (.slice (some ⟨g, 0, none⟩) k c) u) {j : Nat} (hj : j < k) {z : Int} (hz : -2 ≤ z ∧ z ≤ 5000) : FnS W b ra rn rc k (.slice (some ⟨g, 0, none⟩) k c) (u.setCell ⟨g, j, none⟩ (.int .i64 z)) := by
  obtain ⟨D, h1, h2, h3⟩ := h.own
  refine ⟨h.src.set h.hb (p := ⟨g, j, none⟩) (h2.lt g rfl).1 _, h.hb, by simpa [World.setCell] using h.hs, D.set j z, by simp [h1], own_putF h2 hj z, fun i hi => ?_⟩
  rw [List.getD_eq_getElem?_getD, List.getElem?_set]
  by_cases e : j = i
  · rw [if_pos e, if_pos (by omega)]; exact hz
  · rw [if_neg e, ← List.getD_eq_getElem?_getD]; exact h3 i hi
theorem FnS.form (h : FnS W b ra rn rc k x u) : ∃ a c, x = .slice a k c ∧ (a = none ∧ k = 0 ∨ ∃ g, a = some ⟨g, 0, none⟩) := by
  obtain ⟨D, h1, h2, h3⟩ := h.own
  obtain ⟨_, a, c, hx, _, _, hg⟩ := intO_of_owns h2
  exact ⟨a, c, hx, hg.imp id fun ⟨g, h, _⟩ => ⟨g, h⟩⟩
theorem FnS.at {g c : Nat} (h : FnS W b ra rn rc k (.slice (some ⟨g, 0, none⟩) k c) u) {j : Nat} (hj : j < k) : (∃ y, u.cell? ⟨g, j, none⟩ = some (.int .i64 y)) ∧ u.frozen? ⟨g, j, none⟩ = false := by
  obtain ⟨D, h1, h2, h3⟩ := h.own
  obtain ⟨_, a, c', hx, _, _, ⟨_, h0⟩ | ⟨g', hg', _, ho⟩⟩ := intO_of_owns h2
  · omega
  · cases hx; cases hg'
    exact ⟨⟨_, ho.cell hj⟩, ho.frozen j⟩
theorem FnS.fin (h : FnS W b ra rn rc k x u) (hs : SrcAt W b ra rn rc) (hk : k ≤ 61) : ∃ a c D, x = .slice a k c ∧ SrcAt u b ra rn rc ∧ Apart b W u ∧ RowZ u a k c D ∧ ∀ y, a = some y → W.heap.size ≤ y.block := by
  obtain ⟨D, h1, h2, h3⟩ := h.own
  obtain ⟨a, c, hx, hr, hf⟩ := rowZ_of_owns h2 (by omega) (fun i hi => by have := h3 i (by omega); exact ⟨by omega, by omega⟩)
  exact ⟨a, c, D, hx, h.src.at hs, h.src.ap, hr, hf⟩
end

set_option maxRecDepth 100000 in
set_option maxHeartbeats 6400000 in
theorem finish15 (b : Nat) (ra : Option Addr) (rn rc : Nat) (a1 : Option Addr) (n1 c1 : Nat) (lp : List Pk) (w : World) (hs : SrcAt w b ra rn rc) (hbl : b < w.heap.size) (h : PkR w a1 n1 c1 lp) (far : ∀ z, a1 = some z → ¬ z.block = b) (hn : n1 ≤ 60) (ht : ∀ i, i < n1 → 0 ≤ (lp.getD i default).t ∧ (lp.getD i default).t ≤ 2000) :
    Calls Tryz.prog 20 #[.pointer (some ⟨b, 0, none⟩), .slice a1 n1 c1] w (fun e w' => ∃ a n c D, e = .returned (.slice a n c) ∧ SrcAt w' b ra rn rc ∧ Apart b w w' ∧ RowZ w' a n c D ∧ n ≤ 61 ∧ ∀ x, a = some x → w.heap.size ≤ x.block) := by
  obtain ⟨j0, hj, hy0, hy1, hy2⟩ := info_parts info_int
  have HS1 := Lib.hid hs
  have HPK := Lib.hid h
  have FAR := Lib.hid far
  have HT := Lib.hid ht
  have HA0 := Lib.hid (show FnS w b ra rn rc 0 (.slice none 0 0) w from ⟨Hld13.start hs, hbl, Nat.le_refl _, [], rfl, World.ownsRow_nil _ _ _ _, fun i hi => absurd hi (Nat.not_lt_zero _)⟩)
  clear hs h far ht
  go_enter Tryz.func20, Tryz.ntmps20
  go_wp2_with fail
  go_loopw [10, 5] (fun s10 s5 wx => ∃ k : Nat, s10 = .int .i64 k ∧ k ≤ n1 ∧ Hid (FnS w b ra rn rc k s5 wx)) (fun s10 _ _ => n1 - (intOf s10).toNat)
  case atStart => exact ⟨0, by go_num, Nat.zero_le _, HA0⟩
  case round =>
    obtain ⟨k, rfl, hk, HA⟩ := hrel
    obtain ⟨wk, rfl⟩ : ∃ u : World, u = wr := ⟨_, rfl⟩
    obtain ⟨s5, rfl⟩ : ∃ u : Value, u = u5 := ⟨_, rfl⟩
    by_cases hlt : k < n1
    · have hlI : (k : Int) < (n1 : Int) := by omega
      have hpk := pkR_apartZ HPK.out HA.out.src.ap FAR.out
      obtain ⟨B, off, q, ha, hcs, hq, hbd⟩ := hpk.at hlt
      obtain ⟨d0, d1, d2⟩ := hcs k q hq
      have hqd : lp.getD k default = q := by rw [List.getD_eq_getElem?_getD, hq]; rfl
      have htk := HT.out k hlt
      rw [hqd] at htk
      obtain ⟨t0, t1⟩ := htk
      have HAA := Lib.hid ha
      clear hcs hq hbd hqd hpk
      rw [ha]
      clear ha
      go_upto_region 5 with fail
      obtain ⟨u, hu⟩ : ∃ u : World, wk.alloc (.cells #[.int .i64 q.f, .int .i64 q.t, .int .i64 q.s] 54) = u := ⟨_, rfl⟩
      obtain ⟨hb, e0, e1, e2⟩ := box_pk hu
      have A0 := Lib.hid ((HA.out.call hb).call (Below.refl _ _).drew)
      have hbx : ¬ wk.heap.size = b := by have := HA.out.hs; omega
      have hul : wk.heap.size < u.heap.size := lt_of_cell e1
      have E1 := Lib.hid (show ∀ v, Apart b u v → v.cell? ⟨wk.heap.size, 1, none⟩ = some (.int .i64 q.t) from fun v hv => (World.cell?_of_block (w := u) (a := ⟨wk.heap.size, 1, none⟩) (hv.block _ hul hbx)).trans e1)
      rw [hu]
      clear hu hb d0 d1 d2 e0 e1 e2
      refine wp_region_keeps (fun u => u.cell? ⟨wk.heap.size, 1, none⟩ = some (.int .i64 q.t)) 17 2 (by kernel_rfl) (by kernel_rfl) (E1.out _ (below_apart (Below.refl _ _).drew)) (fun hHeld0 => ?_)
      refine wpAnyK_take (i := 0) (v := ?_) rfl (by kernel_rfl) (fun _ _ _ h => h) (Or.inl ⟨by rfl, ?_⟩) (by assumption) ?_
      rotate_left
      · (intro w hSw; (try dsimp only at hSw); go_simp; try with_reducible rfl)
      try simp only [Act.put, List.getElem_toArray, List.getElem_cons_zero, List.getElem_cons_succ, List.setIfInBounds_toArray, List.set_cons_zero, List.set_cons_succ]
      refine wpAnyK_take (i := 1) (v := ?_) rfl (by kernel_rfl) (fun _ _ _ h => h) (Or.inl ⟨by rfl, ?_⟩) (by assumption) ?_
      rotate_left
      · (intro w hSw; (try dsimp only at hSw); go_simp; try with_reducible rfl)
      try simp only [Act.put, List.getElem_toArray, List.getElem_cons_zero, List.getElem_cons_succ, List.setIfInBounds_toArray, List.set_cons_zero, List.set_cons_succ]
      refine wpAnyK_take (i := 2) (v := ?_) rfl (by kernel_rfl) (fun _ _ _ h => h) (Or.inl ⟨by rfl, ?_⟩) (by assumption) ?_
      rotate_left
      · (intro w hSw; (try dsimp only at hSw); go_simp; try with_reducible rfl)
      try simp only [Act.put, List.getElem_toArray, List.getElem_cons_zero, List.getElem_cons_succ, List.setIfInBounds_toArray, List.set_cons_zero, List.set_cons_succ]
      refine wpAnyK_take (i := 3) (v := ?_) rfl (by kernel_rfl) (fun _ _ _ h => h) (Or.inl ⟨by rfl, ?_⟩) (by assumption) ?_
      rotate_left
      · (intro w hSw; (try dsimp only at hSw); go_simp; try with_reducible rfl)
      try simp only [Act.put, List.getElem_toArray, List.getElem_cons_zero, List.getElem_cons_succ, List.setIfInBounds_toArray, List.set_cons_zero, List.set_cons_succ]
      refine wpAnyK_take (i := 4) (v := ?_) rfl (by kernel_rfl) (fun _ _ _ h => h) (Or.inl ⟨by rfl, ?_⟩) (by assumption) ?_
      rotate_left
      · (intro w hSw; (try dsimp only at hSw); go_simp; try with_reducible rfl)
      try simp only [Act.put, List.getElem_toArray, List.getElem_cons_zero, List.getElem_cons_succ, List.setIfInBounds_toArray, List.set_cons_zero, List.set_cons_succ]
      refine wpAnyK_take (i := 5) (v := ?_) rfl (by kernel_rfl) (fun _ _ _ h => h) (Or.inl ⟨by rfl, ?_⟩) (by assumption) ?_
      rotate_left
      · (intro w hSw; (try dsimp only at hSw); go_simp; try with_reducible rfl)
      try simp only [Act.put, List.getElem_toArray, List.getElem_cons_zero, List.getElem_cons_succ, List.setIfInBounds_toArray, List.set_cons_zero, List.set_cons_succ]
      refine wpAnyK_take (i := 6) (v := ?_) rfl (by kernel_rfl) (fun _ _ _ h => h) (Or.inl ⟨by rfl, ?_⟩) (by assumption) ?_
      rotate_left
      · (intro w hSw; (try dsimp only at hSw); go_simp; try with_reducible rfl)
      try simp only [Act.put, List.getElem_toArray, List.getElem_cons_zero, List.getElem_cons_succ, List.setIfInBounds_toArray, List.set_cons_zero, List.set_cons_succ]
      refine wpAnyK_take (i := 9) (v := ?_) rfl (by kernel_rfl) (fun _ _ _ h => h) (Or.inl ⟨by rfl, ?_⟩) (by assumption) ?_
      rotate_left
      · (intro w hSw; (try dsimp only at hSw); go_simp; try with_reducible rfl)
      try simp only [Act.put, List.getElem_toArray, List.getElem_cons_zero, List.getElem_cons_succ, List.setIfInBounds_toArray, List.set_cons_zero, List.set_cons_succ]
      refine wpAnyK_take (i := 10) (v := ?_) rfl (by kernel_rfl) (fun _ _ _ h => h) (Or.inl ⟨by rfl, ?_⟩) (by assumption) ?_
      rotate_left
      · (intro w hSw; (try dsimp only at hSw); go_simp; try with_reducible rfl)
      try simp only [Act.put, List.getElem_toArray, List.getElem_cons_zero, List.getElem_cons_succ, List.setIfInBounds_toArray, List.set_cons_zero, List.set_cons_succ]
      refine wpAnyK_take (i := 11) (v := ?_) rfl (by kernel_rfl) (fun _ _ _ h => h) (Or.inl ⟨by rfl, ?_⟩) (by assumption) ?_
      rotate_left
      · (intro w hSw; (try dsimp only at hSw); go_simp; try with_reducible rfl)
      try simp only [Act.put, List.getElem_toArray, List.getElem_cons_zero, List.getElem_cons_succ, List.setIfInBounds_toArray, List.set_cons_zero, List.set_cons_succ]
      refine wpAnyK_step (i := 7) rfl (by kernel_rfl) (fun K hK => ?_)
      go_simp
      with_reducible refine (n_any 9 (by omega) (by omega) _ ra rn rc _ (A0.out.src.at HS1.out)).mono ?_
      rintro e u1 ⟨z, ⟨z0, z1⟩, rfl, hs, he⟩
      have A1 := Lib.hid (A0.out.take hs he.apart)
      have P1 := Lib.hid ((below_apart (Below.refl _ _).drew).trans he.apart)
      have hwz : IntKind.i64.wrap (q.t + z) = q.t + z := IntWalk.i64_in _ ⟨by omega, by omega⟩
      clear hs he
      refine hK.out _ _ (E1.out _ P1.out) (fun hHeld1 => ?_)
      clear hK K hHeld0
      try simp only [Act.put, List.getElem_toArray, List.getElem_cons_zero, List.getElem_cons_succ, List.setIfInBounds_toArray, List.set_cons_zero, List.set_cons_succ]
      refine wpAnyK_take (i := 8) (v := ?_) rfl (by kernel_rfl) (fun _ _ _ h => h) (Or.inl ⟨by rfl, ?_⟩) (by assumption) ?_
      rotate_left
      · (intro w hSw; (try dsimp only at hSw); go_simp; try with_reducible rfl)
      try simp only [Act.put, List.getElem_toArray, List.getElem_cons_zero, List.getElem_cons_succ, List.setIfInBounds_toArray, List.set_cons_zero, List.set_cons_succ]
      refine wpAnyK_step (i := 12) rfl (by kernel_rfl) (fun K hK => ?_)
      go_simp
      with_reducible refine (n_any 40 (by omega) (by omega) _ ra rn rc _ (A1.out.src.at HS1.out)).mono ?_
      rintro e u2 ⟨y, ⟨y0, y1⟩, rfl, hs, he⟩
      have A2 := Lib.hid (A1.out.take hs he.apart)
      have P2 := Lib.hid (P1.out.trans he.apart)
      have hwy : IntKind.i64.wrap (q.t + y) = q.t + y := IntWalk.i64_in _ ⟨by omega, by omega⟩
      clear hs he
      refine hK.out _ _ (E1.out _ P2.out) (fun hHeld2 => ?_)
      clear hK K hHeld1
      try simp only [Act.put, List.getElem_toArray, List.getElem_cons_zero, List.getElem_cons_succ, List.setIfInBounds_toArray, List.set_cons_zero, List.set_cons_succ]
      refine wpAnyK_take (i := 13) (v := ?_) rfl (by kernel_rfl) (fun _ _ _ h => h) (Or.inl ⟨by rfl, ?_⟩) (by assumption) ?_
      rotate_left
      · (intro w hSw; (try dsimp only at hSw); go_simp; try with_reducible rfl)
      try simp only [Act.put, List.getElem_toArray, List.getElem_cons_zero, List.getElem_cons_succ, List.setIfInBounds_toArray, List.set_cons_zero, List.set_cons_succ]
      obtain ⟨w2', hw2'⟩ : ∃ v : World, v = u2 := ⟨_, rfl⟩
      refine wpAnyK_step (i := 14) rfl (by kernel_rfl) (fun K hK => ?_)
      go_simp
      refine hK.out _ _ (E1.out _ (P2.out.trans (below_apart ((Below.refl _ _).alloc (Nat.le_refl _) (.cells #[.int .i64 q.t, .int .i64 (q.t + z), .int .i64 (q.t + y), .int .i64 (-1)] 3))))) (fun hHeld3 => ?_)
      clear hK K hHeld2
      try simp only [Act.put, List.getElem_toArray, List.getElem_cons_zero, List.getElem_cons_succ, List.setIfInBounds_toArray, List.set_cons_zero, List.set_cons_succ]
      have A3 := Lib.hid (A2.out.call ((Below.refl _ _).alloc (Nat.le_refl _) (.cells #[.int .i64 q.t, .int .i64 (q.t + z), .int .i64 (q.t + y), .int .i64 (-1)] 3)))
      have P3 := Lib.hid (P2.out.trans (below_apart ((Below.refl _ _).alloc (Nat.le_refl _) (.cells #[.int .i64 q.t, .int .i64 (q.t + z), .int .i64 (q.t + y), .int .i64 (-1)] 3))))
      have hne1 : ¬ u2.heap.size = b := by have := A2.out.hs; omega
      have HPI := Lib.hid (pick_of (fun v => -2 ≤ v ∧ v ≤ 5000) (fun v hv => ⟨by omega, by omega⟩) u2.heap.size 4 4 (by omega) (by omega) b hne1 ra rn rc _ (A3.out.src.at HS1.out) (fun i hi => by
        have : i = 0 ∨ i = 1 ∨ i = 2 ∨ i = 3 := by omega
        rcases this with rfl | rfl | rfl | rfl
        · exact ⟨_, cell_new13 rfl, by omega, by omega⟩
        · exact ⟨_, cell_new13 rfl, by omega, by omega⟩
        · exact ⟨_, cell_new13 rfl, by omega, by omega⟩
        · exact ⟨_, cell_new13 rfl, by omega, by omega⟩))
      refine wpAnyK_step (i := 15) rfl (by kernel_rfl) (fun K hK => ?_)
      go_simp
      with_reducible refine (HPI.out).mono ?_
      rintro e u3 ⟨x, hx, rfl, hs, he⟩
      have A4 := Lib.hid (A3.out.take hs he)
      have P4 := Lib.hid (P3.out.trans he)
      have HXV := Lib.hid hx
      clear hs he hx
      refine hK.out _ _ (E1.out _ P4.out) (fun hHeld4 => ?_)
      clear hK K hHeld3
      try simp only [Act.put, List.getElem_toArray, List.getElem_cons_zero, List.getElem_cons_succ, List.setIfInBounds_toArray, List.set_cons_zero, List.set_cons_succ]
      refine wpAnyK_step (i := 16) rfl (by kernel_rfl) (fun K hK => ?_)
      go_simp
      refine hK.out _ _ (E1.out _ (P4.out.trans (below_apart ((Below.refl _ _).alloc (Nat.le_refl _) (.cells #[.int .i64 x] 3))))) (fun hHeld5 => ?_)
      clear hK K hHeld4
      try simp only [Act.put, List.getElem_toArray, List.getElem_cons_zero, List.getElem_cons_succ, List.setIfInBounds_toArray, List.set_cons_zero, List.set_cons_succ]
      refine wpAnyK_done (by kernel_rfl) ?_
      simp only [List.drop_succ_cons, List.drop_zero]
      clear hHeld5
      obtain ⟨D, hDl, hDo, hDb⟩ := A4.out.own
      have HDD := Lib.hid (And.intro hDl (And.intro hDo hDb))
      clear hDl hDo hDb
      have hsz4 := A4.out.hs
      go_wp2_with (at_builtin; refine wpList_append_own _ rfl _ _ 22 rfl w.heap.size 3 j0 (.int .i64 0) 1 8 Tryz.underlying22 hj hy0 hy1 hy2 rfl (by decide) s5 k (D.map (Value.int .i64)) rfl (HDD.out.2.1.alloc _) ⟨u3.heap.size, 0, none⟩ 1 1 [.int .i64 x] rfl rfl ?k1 ?k2 (by unfold maxLen; omega) (by omega) (by simp; omega) ?_)
      case k1 =>
        intro j u hj
        have hj1 : j < 1 := (List.getElem?_eq_some_iff.1 hj).1
        obtain rfl : j = 0 := by omega
        cases hj
        rw [show ((⟨u3.heap.size, 0, none⟩ : Addr).add 0) = ⟨u3.heap.size, 0, none⟩ from rfl]
        exact cell_new13 rfl
      case k2 => intro u hu; rw [List.mem_singleton.1 hu]; rfl
      intro v' w7 ho' hg' _
      have HN := Lib.hid (A4.out.push HDD.out.1 HDD.out.2.2 HDD.out.2.1 HXV.out ho' hg')
      clear ho' hg'
      go_wp2_with fail
      go_roundw
      case rel => exact ⟨k + 1, by go_num, by omega, Lib.hid (by first | exact HN.out | (rw [← HAA.out]; exact HN.out))⟩
      case measure => first | (simp [intOf]; done) | (simp [intOf]; omega)
    · obtain rfl : k = n1 := by omega
      have hlI : ¬ (k : Int) < (k : Int) := by omega
      obtain ⟨fa, fc, rfl, hfa⟩ := HA.out.form
      have HFA := Lib.hid hfa
      clear hfa
      go_upto_region 7 with fail
      by_cases hk0 : k = 0
      · have hk1 : decide ((0 : Int) < (k : Int)) = false := by simp [hk0]
        have hk3 : k ≤ 0 := by omega
        clear hk0
        go_wp2_with fail
        refine (n_any 9 (by omega) (by omega) _ ra rn rc _ (HA.out.src.at HS1.out)).mono ?_
        rintro e v1 ⟨z9, ⟨z90, z91⟩, rfl, hs, he⟩
        have Z1 := Lib.hid (HA.out.take hs he.apart)
        clear hs he
        by_cases hz9 : z9 = 0
        · subst hz9
          obtain ⟨D, hDl, hDo, hDb⟩ := Z1.out.own
          have HDD := Lib.hid (And.intro hDl (And.intro hDo hDb))
          clear hDl hDo hDb
          have hsz4 := Z1.out.hs
          go_wp2_with (at_builtin; refine wpList_append_own _ rfl _ _ 22 rfl w.heap.size 3 j0 (.int .i64 0) 1 8 Tryz.underlying22 hj hy0 hy1 hy2 rfl (by decide) _ k (D.map (Value.int .i64)) rfl (HDD.out.2.1.alloc _) ⟨v1.heap.size, 0, none⟩ 1 1 [.int .i64 0] rfl rfl ?k1a ?k2a (by unfold maxLen; omega) (by omega) (by simp; omega) ?_)
          case k1a =>
            intro j u hj
            have hj1 : j < 1 := (List.getElem?_eq_some_iff.1 hj).1
            obtain rfl : j = 0 := by omega
            cases hj
            rw [show ((⟨v1.heap.size, 0, none⟩ : Addr).add 0) = ⟨v1.heap.size, 0, none⟩ from rfl]
            exact cell_new13 rfl
          case k2a => intro u hu; rw [List.mem_singleton.1 hu]; rfl
          intro v' w7 ho' hg' _
          have HN := Lib.hid (Z1.out.push HDD.out.1 HDD.out.2.2 HDD.out.2.1 (by omega) ho' hg')
          clear ho' hg'
          obtain ⟨fa9, fc9, D9, rfl, hs9, ha9, hr9, hf9⟩ := HN.out.fin HS1.out (by omega)
          have HFIN := Lib.hid (And.intro hs9 (And.intro ha9 (And.intro hr9 hf9)))
          clear hs9 ha9 hr9 hf9
          go_wp2_with fail
          go_ret
          exact ⟨_, _, _, D9, rfl, HFIN.out.1, HFIN.out.2.1, HFIN.out.2.2.1, by omega, HFIN.out.2.2.2⟩
        · have hzb9 : (z9 == 0) = false := by simp [hz9]
          obtain ⟨fa9, fc9, D9, hx9, hs9, ha9, hr9, hf9⟩ := Z1.out.fin HS1.out (by omega)
          cases hx9
          have HFIN := Lib.hid (And.intro hs9 (And.intro ha9 (And.intro hr9 hf9)))
          clear hs9 ha9 hr9 hf9
          go_wp2_with fail
          go_ret
          exact ⟨_, _, _, D9, rfl, HFIN.out.1, HFIN.out.2.1, HFIN.out.2.2.1, by omega, HFIN.out.2.2.2⟩
      · have hk1 : decide ((0 : Int) < (k : Int)) = true := by simp; omega
        have hk2 : (0 : Int) < (k : Int) := by omega
        rcases HFA.out with ⟨_, h0⟩ | ⟨g, hg⟩
        · exact absurd h0 hk0
        subst hg
        go_wp2_with fail
        refine (n_any 4 (by omega) (by omega) _ ra rn rc _ (HA.out.src.at HS1.out)).mono ?_
        rintro e u1 ⟨z, ⟨z0, z1⟩, rfl, hs, he⟩
        have A1 := Lib.hid (HA.out.take hs he.apart)
        clear hs he
        by_cases hz0 : z = 0
        · subst hz0
          go_wp2_with fail
          refine (n_any (k : Int) (by omega) (by omega) _ ra rn rc _ (A1.out.src.at HS1.out)).mono ?_
          rintro e u2 ⟨y, ⟨y0, y1⟩, rfl, hs, he⟩
          have A2 := Lib.hid (A1.out.take hs he.apart)
          obtain ⟨yn, rfl⟩ : ∃ j : Nat, y = j := ⟨y.toNat, by omega⟩
          have hyk : yn < k := by omega
          clear hs he
          obtain ⟨w2', hw2'⟩ : ∃ v : World, v = u2 := ⟨_, rfl⟩
          have A3 := Lib.hid (A2.out.call ((Below.refl _ _).alloc (Nat.le_refl _) (.cells #[.int .i64 (-2), .int .i64 0, .int .i64 1999, .int .i64 2000] 3)))
          have hne1 : ¬ u2.heap.size = b := by have := A2.out.hs; omega
          have HPI := Lib.hid (pick_of (fun v => -2 ≤ v ∧ v ≤ 5000) (fun v hv => ⟨by omega, by omega⟩) u2.heap.size 4 4 (by omega) (by omega) b hne1 ra rn rc _ (A3.out.src.at HS1.out) (fun i hi => by
            have : i = 0 ∨ i = 1 ∨ i = 2 ∨ i = 3 := by omega
            rcases this with rfl | rfl | rfl | rfl
            · exact ⟨_, cell_new13 rfl, by omega, by omega⟩
            · exact ⟨_, cell_new13 rfl, by omega, by omega⟩
            · exact ⟨_, cell_new13 rfl, by omega, by omega⟩
            · exact ⟨_, cell_new13 rfl, by omega, by omega⟩))
          go_wp2_with fail
          refine HPI.out.mono ?_
          rintro e u3 ⟨x, hx, rfl, hs, he⟩
          have A4 := Lib.hid (A3.out.take hs he)
          obtain ⟨⟨yo, hyc⟩, hyf⟩ := A4.out.at hyk
          have A5 := Lib.hid (A4.out.put hyk hx)
          clear hs he hx
          go_wp2_with fail
          refine (n_any 9 (by omega) (by omega) _ ra rn rc _ (A5.out.src.at HS1.out)).mono ?_
          rintro e v1 ⟨z9, ⟨z90, z91⟩, rfl, hs, he⟩
          have Z1 := Lib.hid (A5.out.take hs he.apart)
          clear hs he
          by_cases hz9 : z9 = 0
          · subst hz9
            obtain ⟨D, hDl, hDo, hDb⟩ := Z1.out.own
            have HDD := Lib.hid (And.intro hDl (And.intro hDo hDb))
            clear hDl hDo hDb
            have hsz4 := Z1.out.hs
            go_wp2_with (at_builtin; refine wpList_append_own _ rfl _ _ 22 rfl w.heap.size 3 j0 (.int .i64 0) 1 8 Tryz.underlying22 hj hy0 hy1 hy2 rfl (by decide) _ k (D.map (Value.int .i64)) rfl (HDD.out.2.1.alloc _) ⟨v1.heap.size, 0, none⟩ 1 1 [.int .i64 0] rfl rfl ?k1b ?k2b (by unfold maxLen; omega) (by omega) (by simp; omega) ?_)
            case k1b =>
              intro j u hj
              have hj1 : j < 1 := (List.getElem?_eq_some_iff.1 hj).1
              obtain rfl : j = 0 := by omega
              cases hj
              rw [show ((⟨v1.heap.size, 0, none⟩ : Addr).add 0) = ⟨v1.heap.size, 0, none⟩ from rfl]
              exact cell_new13 rfl
            case k2b => intro u hu; rw [List.mem_singleton.1 hu]; rfl
            intro v' w7 ho' hg' _
            have HN := Lib.hid (Z1.out.push HDD.out.1 HDD.out.2.2 HDD.out.2.1 (by omega) ho' hg')
            clear ho' hg'
            obtain ⟨fa9, fc9, D9, rfl, hs9, ha9, hr9, hf9⟩ := HN.out.fin HS1.out (by omega)
            have HFIN := Lib.hid (And.intro hs9 (And.intro ha9 (And.intro hr9 hf9)))
            clear hs9 ha9 hr9 hf9
            go_wp2_with fail
            go_ret
            exact ⟨_, _, _, D9, rfl, HFIN.out.1, HFIN.out.2.1, HFIN.out.2.2.1, by omega, HFIN.out.2.2.2⟩
          · have hzb9 : (z9 == 0) = false := by simp [hz9]
            obtain ⟨fa9, fc9, D9, hx9, hs9, ha9, hr9, hf9⟩ := Z1.out.fin HS1.out (by omega)
            cases hx9
            have HFIN := Lib.hid (And.intro hs9 (And.intro ha9 (And.intro hr9 hf9)))
            clear hs9 ha9 hr9 hf9
            go_wp2_with fail
            go_ret
            exact ⟨_, _, _, D9, rfl, HFIN.out.1, HFIN.out.2.1, HFIN.out.2.2.1, by omega, HFIN.out.2.2.2⟩
        · have hzb : (z == 0) = false := by simp [hz0]
          go_wp2_with fail
          refine (n_any 9 (by omega) (by omega) _ ra rn rc _ (A1.out.src.at HS1.out)).mono ?_
          rintro e v1 ⟨z9, ⟨z90, z91⟩, rfl, hs, he⟩
          have Z1 := Lib.hid (A1.out.take hs he.apart)
          clear hs he
          by_cases hz9 : z9 = 0
          · subst hz9
            obtain ⟨D, hDl, hDo, hDb⟩ := Z1.out.own
            have HDD := Lib.hid (And.intro hDl (And.intro hDo hDb))
            clear hDl hDo hDb
            have hsz4 := Z1.out.hs
            go_wp2_with (at_builtin; refine wpList_append_own _ rfl _ _ 22 rfl w.heap.size 3 j0 (.int .i64 0) 1 8 Tryz.underlying22 hj hy0 hy1 hy2 rfl (by decide) _ k (D.map (Value.int .i64)) rfl (HDD.out.2.1.alloc _) ⟨v1.heap.size, 0, none⟩ 1 1 [.int .i64 0] rfl rfl ?k1c ?k2c (by unfold maxLen; omega) (by omega) (by simp; omega) ?_)
            case k1c =>
              intro j u hj
              have hj1 : j < 1 := (List.getElem?_eq_some_iff.1 hj).1
              obtain rfl : j = 0 := by omega
              cases hj
              rw [show ((⟨v1.heap.size, 0, none⟩ : Addr).add 0) = ⟨v1.heap.size, 0, none⟩ from rfl]
              exact cell_new13 rfl
            case k2c => intro u hu; rw [List.mem_singleton.1 hu]; rfl
            intro v' w7 ho' hg' _
            have HN := Lib.hid (Z1.out.push HDD.out.1 HDD.out.2.2 HDD.out.2.1 (by omega) ho' hg')
            clear ho' hg'
            obtain ⟨fa9, fc9, D9, rfl, hs9, ha9, hr9, hf9⟩ := HN.out.fin HS1.out (by omega)
            have HFIN := Lib.hid (And.intro hs9 (And.intro ha9 (And.intro hr9 hf9)))
            clear hs9 ha9 hr9 hf9
            go_wp2_with fail
            go_ret
            exact ⟨_, _, _, D9, rfl, HFIN.out.1, HFIN.out.2.1, HFIN.out.2.2.1, by omega, HFIN.out.2.2.2⟩
          · have hzb9 : (z9 == 0) = false := by simp [hz9]
            obtain ⟨fa9, fc9, D9, hx9, hs9, ha9, hr9, hf9⟩ := Z1.out.fin HS1.out (by omega)
            cases hx9
            have HFIN := Lib.hid (And.intro hs9 (And.intro ha9 (And.intro hr9 hf9)))
            clear hs9 ha9 hr9 hf9
            go_wp2_with fail
            go_ret
            exact ⟨_, _, _, D9, rfl, HFIN.out.1, HFIN.out.2.1, HFIN.out.2.2.1, by omega, HFIN.out.2.2.2⟩
end Go.Proofs.YtkienpbmoilheaaGreat
