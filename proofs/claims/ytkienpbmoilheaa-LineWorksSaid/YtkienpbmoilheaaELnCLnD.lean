/- Package machine: the state at the start. By the verifier's side. -/
import Derived.Test.YtkienpbmoilheaaELnHLnALnBLnG
import Derived.Test.YtkienpbmoilheaaECurAGrow
import Derived.Test.YtkienpbmoilheaaETrX
import Derived.Test.YtkienpbmoilheaaETrR
import Derived.Laws.Bits64b
import Derived.Laws.CopyOwn
namespace Go.Proofs.Ytkienpbmoilheaa
open Go.RowKit
set_option linter.unusedSimpArgs false
set_option linter.unusedVariables false

/-- The sizes of the first k packets, as cells. -/
def szV (lp : List Pk) (k : Nat) : List Value := (lp.take k).map fun q => .int .i64 q.s
theorem own_below16 {w w' : World} {base : Nat} {v : Value} {k : Nat} {xs : List Value} {e : TypeId} {s : Nat} (h : w.ownsRow base e s v k xs) (ha : Below w.heap.size w w') : w'.ownsRow base e s v k xs := by
  obtain ⟨hl, hr⟩ := h
  refine ⟨hl, ?_⟩
  rcases hr with h0 | ⟨g, cap, cur, hv, hbase, hg, h1, h2, h3, h4⟩
  · exact .inl h0
  · exact .inr ⟨g, cap, cur, hv, hbase, (ha.block g (Array.getElem?_eq_some_iff.1 hg).1).trans hg, h1, h2, h3, h4⟩
theorem box_pk16 {wk u : World} {q : Pk} (hu : wk.alloc (.cells #[.int .i64 q.f, .int .i64 q.t, .int .i64 q.s] 103) = u) : Below wk.heap.size wk u ∧ u.cell? ⟨wk.heap.size, 0, none⟩ = some (.int .i64 q.f) ∧ u.cell? ⟨wk.heap.size, 1, none⟩ = some (.int .i64 q.t) ∧ u.cell? ⟨wk.heap.size, 2, none⟩ = some (.int .i64 q.s) := by
  rw [← hu]; exact ⟨(Below.refl _ _).alloc (Nat.le_refl _) _, cell_new13 rfl, cell_new13 rfl, cell_new13 rfl⟩
theorem szV_succ {lp : List Pk} {k : Nat} {q : Pk} (h : lp[k]? = some q) : szV lp (k + 1) = szV lp k ++ [.int .i64 q.s] := by
  unfold szV; rw [List.take_add_one, h, List.map_append]; rfl
theorem szV_at {lp : List Pk} {n i : Nat} (hn : n = lp.length) (hi : i < n) : (szV lp n)[i]? = some (.int .i64 (szI lp i)) := by
  unfold szV szI
  rw [hn, List.take_length, List.getElem?_map, List.getElem?_eq_getElem (by omega), List.getD_eq_getElem?_getD, List.getElem?_eq_getElem (by omega)]; rfl
/-- While the list of what is left grows. -/
structure StL (w : World) (aP : Option Addr) (nP cP : Nat) (lp : List Pk) (X k : Nat) (v : Value) (wx : World) : Prop where
  st : StC wx X (.slice aP nP cP) v (.int .i64 (-1)) (.int .i64 0) (.int .i64 0)
  own : wx.ownsRow (X + 1) 3 1 v k (szV lp k)
  bel : Below w.heap.size w wx
  hX : w.heap.size ≤ X
section
variable {w : World} {aP : Option Addr} {nP cP : Nat} {lp : List Pk} {X k : Nat} {v : Value} {wx u : World}
theorem StL.call (h : StL w aP nP cP lp X k v wx) (hb : Below wx.heap.size wx u) : StL w aP nP cP lp X k v u :=
  ⟨h.st.under hb, own_below16 h.own hb, h.bel.trans (hb.mono h.bel.size), h.hX⟩
theorem StL.lt (h : StL w aP nP cP lp X k v wx) : X < wx.heap.size := h.st.lt
/-- What is left, at the start. -/
theorem StL.fin (h : StL w aP nP cP lp X nP v wx) (hl : lp.length = nP) : ∃ aL cL L, v = .slice aL nP cL ∧ X < L ∧ (nP = 0 ∨ aL = some ⟨L, 0, none⟩ ∧ SumC wx L nP (szI lp)) ∧ nP ≤ cL ∧ cL ≤ 9223372036854775807 := by
  obtain ⟨h1, h2⟩ := h.own
  rcases h2 with ⟨h3, h4⟩ | ⟨g, cap, cur, hv, hbase, hg, h3, h4, h5, h6⟩
  · exact ⟨none, 0, X + 1, by rw [h3, h4], by omega, .inl h4, by omega, by omega⟩
  · refine ⟨some ⟨g, 0, none⟩, cap, g, hv, by omega, .inr ⟨rfl, cur, _, hg, by omega, fun i hi => ?_⟩, h3, by unfold maxLen at h4; omega⟩
    have h7 := szV_at (lp := lp) hl.symm hi
    rw [← h6, List.getElem?_take, if_pos (by omega)] at h7
    simpa using h7
theorem info_int16 : ∃ i : TypeInfo, Try.prog.info? 3 = some i ∧ i.zero = some (.int .i64 0) ∧ i.size = 1 ∧ i.bytes = 8 := info_parts info_int
/-- An append of a number, alone. -/
theorem wp_append_int {w : World} {o : Oper} {a : Act} {K : Act → World → Prop} {Q : Exit → Act → World → Prop} (s x : Operand)
    (ho : o.op = .call { callee := .builtin .append, args := #[s, x], argTypes := #[22, 22] })
    (base : Nat) (v : Value) (n : Nat) (l0 : List Value) (hs : a.eval s = v) (hown : w.ownsRow base 3 1 v n l0)
    (ad : Addr) (y : Int) (hx : a.eval x = .slice (some ad) 1 1) (hc : w.cell? (ad.add 0) = some (.int .i64 y)) (hn : n ≤ 1000000) (hbase : base ≤ w.heap.size)
    (h : ∀ v' w', w'.ownsRow base 3 1 v' (n + 1) (l0 ++ [.int .i64 y]) → Below base w w' → (∀ b, b < w.heap.size → ¬ v.ownBlock = some b → w'.heap[b]? = w.heap[b]?) → K (a.put o.dst v') w') : Oper.wp Try.prog o a w K Q := by
  obtain ⟨i0, hi, hz0, hz1, hz2⟩ := info_int16
  have hrow : ∀ j, v.ownBlock = some j → base ≤ j := fun j hj => (hown.lt j hj).1
  have hrun := run_append_own (P := Try.prog) w base 22 o.type 3 i0 (.int .i64 0) 1 8 Try.underlying22 hi hz0 hz1 hz2 rfl (by decide) v n l0 hown ad 1 1 [.int .i64 y] rfl (fun j u hj => by
    rcases j with _ | j
    · cases hj; exact hc
    · cases hj) (fun u hu => by rw [List.mem_singleton.1 hu]; rfl) (by unfold maxLen; omega) (by omega) hbase
  obtain ⟨v', w', hr', hown', hg, _⟩ := hrun
  unfold Oper.wp
  simp [execOp, ho, resolve, invoke, builtin, hs, hx, hr', Result.andThen]
  exact h v' w' hown' (grownBy_below hg hrow hbase) (fun b hb hne => hg.block b hb (fun e => hne e.symm))

set_option maxRecDepth 100000 in
set_option maxHeartbeats 3200000 in
theorem start16 (w : World) (H : PkR w aP nP cP lp) (hn : nP ≤ 1000) :
    Calls Try.prog 272 #[.slice aP nP cP] w fun e w' => ∃ v, e = .returned (.pointer (some ⟨w.heap.size, 0, none⟩)) ∧ StL w aP nP cP lp w.heap.size nP v w' := by
  have HP := Lib.hid H
  have HL := Lib.hid H.len
  clear H
  go_enter Try.func272, Try.ntmps272
  go_upto_region 2 with fail
  obtain ⟨u1, hu1⟩ : ∃ V, w.alloc (.cells #[.slice aP nP cP, .slice none 0 0, .int .i64 (-1), .int .i64 0, .int .i64 0] 235) = V := ⟨_, rfl⟩
  have HS := Lib.hid (show StL w aP nP cP lp w.heap.size 0 (.slice none 0 0) u1 from by
    rw [← hu1]
    exact ⟨⟨_, World.alloc_heap_new w _⟩, World.ownsRow_nil _ _ _ _, (Below.refl _ _).alloc (Nat.le_refl _) _, Nat.le_refl _⟩)
  rw [hu1]
  clear hu1
  obtain ⟨X, hX⟩ : ∃ n, w.heap.size = n := ⟨_, rfl⟩
  have HX := Lib.hid hX
  rw [hX] at HS ⊢
  clear hX
  go_wp2_with fail
  go_loopw [11] (fun vi wx => ∃ (k : Nat) (v : Value), vi = .int .i64 k ∧ k ≤ nP ∧ Hid (StL w aP nP cP lp X k v wx)) (fun vi _ => nP - (intOf vi).toNat)
  case atStart => exact ⟨0, _, by go_num, Nat.zero_le _, HS⟩
  case round =>
    obtain ⟨k, v, rfl, hk, HT⟩ := hrel
    obtain ⟨wk, rfl⟩ : ∃ u : World, u = wr := ⟨_, rfl⟩
    by_cases hlt : k < nP
    · have hlI : (k : Int) < (nP : Int) := by omega
      obtain ⟨B, off, q, ha, hcs, hq, hbd⟩ := (HP.out.under HT.out.bel).at hlt
      obtain ⟨c0, c1, c2⟩ := hcs k q hq
      have HQ := Lib.hid hq
      clear hcs hq hbd
      subst ha
      go_upto_region 5 with fail
      obtain ⟨u, hu⟩ : ∃ u : World, wk.alloc (.cells #[.int .i64 q.f, .int .i64 q.t, .int .i64 q.s] 103) = u := ⟨_, rfl⟩
      obtain ⟨hb, n0, n1, n2⟩ := box_pk16 hu
      have HT1 := Lib.hid (HT.out.call hb)
      rw [hu]
      clear hu hb c0 c1 c2 n0 n1
      have hwk : X < wk.heap.size := HT.out.lt
      obtain ⟨bx, hbx⟩ : ∃ n, wk.heap.size = n := ⟨_, rfl⟩
      have HVB := Lib.hid (show ∀ j, v.ownBlock = some j → j < bx from fun j hj => by rw [← hbx]; exact (HT.out.own.lt j hj).2)
      rw [hbx] at n2 hwk ⊢
      clear hbx
      have hHS := Lib.hid (show u.drew.cell? ⟨X, 1, none⟩ = some v ∧ u.drew.cell? ⟨bx, 2, none⟩ = some (.int .i64 q.s) ∧ StL w (some ⟨B, off, none⟩) nP cP lp X k v u.drew ∧ u.drew = u.drew from ⟨HT1.out.st.cells.2.1, n2, HT1.out.call ((Below.refl _ _).drew), rfl⟩)
      refine wp_region_keeps (fun u => u.cell? ⟨X, 1, none⟩ = some v ∧ u.cell? ⟨bx, 2, none⟩ = some (.int .i64 q.s)) 9 3 (by kernel_rfl) (by kernel_rfl) ⟨hHS.out.1, hHS.out.2.1⟩ (fun hHeld0 => ?_)
      obtain ⟨ud, hud⟩ : ∃ V, u.drew = V := ⟨_, rfl⟩
      have HTd := Lib.hid hHS.out.2.2.1
      rw [hud] at hHeld0 HTd ⊢
      clear hud hHS HT1 n2
      refine wpAnyK_take (i := 0) (v := ?_) rfl (by kernel_rfl) (fun _ _ _ h => h) (Or.inl ⟨by rfl, ?_⟩) (by assumption) ?_
      rotate_left
      · (intro w hSw; (try dsimp only at hSw); go_simp; try with_reducible rfl)
      try simp only [Act.put, List.getElem_toArray, List.getElem_cons_zero, List.getElem_cons_succ, List.setIfInBounds_toArray, List.set_cons_zero, List.set_cons_succ]
      refine wpAnyK_take (i := 1) (v := ?_) rfl (by kernel_rfl) (fun _ _ _ h => h) (Or.inl ⟨by rfl, ?_⟩) (by assumption) ?_
      rotate_left
      · (intro w hSw; (try dsimp only at hSw); go_simp; try with_reducible rfl)
      try simp only [Act.put, List.getElem_toArray, List.getElem_cons_zero, List.getElem_cons_succ, List.setIfInBounds_toArray, List.set_cons_zero, List.set_cons_succ]
      refine wpAnyK_take (i := 2) (v := ?_) rfl (by kernel_rfl) (fun _ _ _ h => h) (Or.inl ⟨by rfl, ?_⟩) (by assumption) ?_
      rotate_left
      · (intro w hSw; (try dsimp only at hSw); go_simp; try with_reducible rfl)
      try simp only [Act.put, List.getElem_toArray, List.getElem_cons_zero, List.getElem_cons_succ, List.setIfInBounds_toArray, List.set_cons_zero, List.set_cons_succ]
      refine wpAnyK_take (i := 3) (v := ?_) rfl (by kernel_rfl) (fun _ _ _ h => h) (Or.inl ⟨by rfl, ?_⟩) (by assumption) ?_
      rotate_left
      · (intro w hSw; (try dsimp only at hSw); go_simp; try with_reducible rfl)
      try simp only [Act.put, List.getElem_toArray, List.getElem_cons_zero, List.getElem_cons_succ, List.setIfInBounds_toArray, List.set_cons_zero, List.set_cons_succ]
      refine wpAnyK_take (i := 4) (v := ?_) rfl (by kernel_rfl) (fun _ _ _ h => h) (Or.inl ⟨by rfl, ?_⟩) (by assumption) ?_
      rotate_left
      · (intro w hSw; (try dsimp only at hSw); go_simp; try with_reducible rfl)
      try simp only [Act.put, List.getElem_toArray, List.getElem_cons_zero, List.getElem_cons_succ, List.setIfInBounds_toArray, List.set_cons_zero, List.set_cons_succ]
      refine wpAnyK_take (i := 5) (v := ?_) rfl (by kernel_rfl) (fun _ _ _ h => h) (Or.inl ⟨by rfl, ?_⟩) (by assumption) ?_
      rotate_left
      · (intro w hSw; (try dsimp only at hSw); go_simp; try with_reducible rfl)
      try simp only [Act.put, List.getElem_toArray, List.getElem_cons_zero, List.getElem_cons_succ, List.setIfInBounds_toArray, List.set_cons_zero, List.set_cons_succ]
      refine wpAnyK_take (i := 6) (v := ?_) rfl (by kernel_rfl) (fun _ _ _ h => h) (Or.inl ⟨by rfl, ?_⟩) (by assumption) ?_
      rotate_left
      · (intro w hSw; (try dsimp only at hSw); go_simp; try with_reducible rfl)
      try simp only [Act.put, List.getElem_toArray, List.getElem_cons_zero, List.getElem_cons_succ, List.setIfInBounds_toArray, List.set_cons_zero, List.set_cons_succ]
      refine wpAnyK_step (i := 7) rfl (by kernel_rfl) (fun K hK => ?_)
      go_simp
      obtain ⟨y7, hy7⟩ : ∃ V, ud.alloc (.cells #[.int .i64 q.s] 3) = V := ⟨_, rfl⟩
      have hb7 : Below ud.heap.size ud y7 := by rw [← hy7]; exact (Below.refl _ _).alloc (Nat.le_refl _) _
      have HT7 := Lib.hid (HTd.out.call hb7)
      have CC7 := Lib.hid (show y7.cell? ((⟨ud.heap.size, 0, none⟩ : Addr).add 0) = some (.int .i64 q.s) from by
        have ea : ((⟨ud.heap.size, 0, none⟩ : Addr).add 0) = ⟨ud.heap.size, 0, none⟩ := by unfold Addr.add; split <;> simp_all
        rw [ea, ← hy7]; exact cell_new13 rfl)
      have HX7 := Lib.hid ((hb7.cell (lt_of_cell hHeld0.2)).trans hHeld0.2)
      have hbs7 := Nat.le_of_lt HT7.out.lt
      rw [hy7]
      refine hK.out _ _ ⟨HT7.out.st.cells.2.1, HX7.out⟩ (fun hHeld1 => ?_)
      clear hK K hy7 hb7 hHeld0
      obtain ⟨b7, hb7⟩ : ∃ n, ud.heap.size = n := ⟨_, rfl⟩
      rw [hb7] at CC7 ⊢
      clear hb7
      try simp only [Act.put, List.getElem_toArray, List.getElem_cons_zero, List.getElem_cons_succ, List.setIfInBounds_toArray, List.set_cons_zero, List.set_cons_succ]
      refine wpAnyK_step (i := 8) rfl (by kernel_rfl) (fun K hK => ?_)
      rw [if_pos (by rfl)]
      refine wp_append_int _ _ rfl (X + 1) v k (szV lp k) rfl HT7.out.own ⟨b7, 0, none⟩ q.s rfl CC7.out (by omega) HT7.out.lt ?_
      intro v8 y8 ho8 hb8 ht8
      obtain ⟨a8, n8, c8, rfl⟩ : ∃ a n c, v8 = .slice a n c := by
        rcases ho8.2 with h | ⟨g, c, _, h, _⟩
        · exact ⟨_, _, _, h.1⟩
        · exact ⟨_, _, _, h⟩
      have hbx8 : y8.cell? ⟨bx, 2, none⟩ = some (.int .i64 q.s) := by
        have hlt8 := lt_of_cell HX7.out
        have := ht8 bx hlt8 (fun e => by have := (HVB.out _ e); omega)
        rw [← HX7.out]
        exact World.cell?_of_block (w := y7) this
      clear ht8
      have hx8 : y8.cell? ⟨X, 1, none⟩ = some v := (hb8.cell (show X < X + 1 by omega)).trans HT7.out.st.cells.2.1
      have HT8 := Lib.hid (show StC y8 X (.slice (some ⟨B, off, none⟩) nP cP) v (.int .i64 (-1)) (.int .i64 0) (.int .i64 0) ∧ y8.ownsRow (X + 1) 3 1 (.slice a8 n8 c8) (k + 1) (szV lp (k + 1)) ∧ Below w.heap.size w y8 ∧ w.heap.size ≤ X from
        ⟨HT7.out.st.of_block (hb8.block X (by omega)), by rw [szV_succ HQ.out]; exact ho8, HT7.out.bel.trans (hb8.mono (by have := HT7.out.hX; omega)), HT7.out.hX⟩)
      refine hK.out _ _ ⟨hx8, hbx8⟩ (fun hHeld2 => ?_)
      clear hK K hHeld1 ho8 hbx8
      try simp only [Act.put, List.getElem_toArray, List.getElem_cons_zero, List.getElem_cons_succ, List.setIfInBounds_toArray, List.set_cons_zero, List.set_cons_succ]
      refine wpAnyK_done (by kernel_rfl) ?_
      simp only [List.drop_succ_cons, List.drop_zero]
      clear hHeld2 hb8
      have hf8 := HT8.out.1.frozen 1
      go_wp2_with fail
      go_roundw
      case rel => exact ⟨k + 1, .slice a8 n8 c8, by go_num, by omega, Lib.hid ⟨HT8.out.1.set1 _, ownsRow_setCell_below HT8.out.2.1 (Nat.lt_succ_self _) _, HT8.out.2.2.1.setCell HT8.out.2.2.2 _, HT8.out.2.2.2⟩⟩
      case measure => first | (simp [intOf]; done) | (simp [intOf]; omega)
    · obtain rfl : k = nP := by omega
      have hkI : ¬ (k : Int) < (k : Int) := by omega
      go_wp2_with fail
      go_ret
      exact ⟨by rw [HX.out]; rfl, v, by rw [HX.out]; exact HT.out⟩
end
end Go.Proofs.Ytkienpbmoilheaa

namespace Go.Proofs.Ytkienpbmoilheaa
open Go.RowKit
set_option linter.unusedSimpArgs false
set_option linter.unusedVariables false

theorem and1_16 : bits .and .u64 (1 : Int) 4294967295 = 1 := by
  have h := bits_and_u64_nat 1 4294967295 (by omega) (by omega)
  have e : 1 &&& 4294967295 = 1 := by decide
  rw [e] at h
  exact h
theorem and0_16 : bits .and .u64 (0 : Int) 4294967295 = 0 := by
  have h := bits_and_u64_nat 0 4294967295 (by omega) (by omega)
  have e : 0 &&& 4294967295 = 0 := by decide
  rw [e] at h
  exact h
theorem andN_16 (n : Nat) (hn : n ≤ 1000) : bits .and .u64 (n : Int) 4294967295 = (n : Int) := by
  have h := bits_and_u64_nat n 4294967295 (by omega) (by omega)
  have e : n &&& 4294967295 = n % 4294967296 := Nat.and_two_pow_sub_one_eq_mod n 32
  rw [e, Nat.mod_eq_of_lt (by omega)] at h
  exact h
set_option maxHeartbeats 1000000 in
theorem mul64_16 (n : Nat) (hn : n ≤ 1000) (w : World) :
    Calls Try.prog 310 #[.int .u64 1, .int .u64 n] w fun e w' => e = .returned (.tuple #[.int .u64 0, .int .u64 n]) ∧ w' = w := by
  have h1 := and1_16
  have h2 := andN_16 n hn
  have h0 := and0_16
  have hd : (n : Int) / 4294967296 = 0 := by omega
  have hw : IntKind.u64.wrap (n : Int) = (n : Int) := by rw [IntKind.wrap_u64]; omega
  go_enter Try.func310, Try.ntmps310
  go_wp2
  go_ret2
  exact ⟨rfl, rfl⟩
set_option maxHeartbeats 1000000 in
theorem mul_16 (n : Nat) (hn : n ≤ 1000) (w : World) :
    Calls Try.prog 301 #[.int .u64 1, .int .u64 n] w fun e w' => e = .returned (.tuple #[.int .u64 0, .int .u64 n]) ∧ w' = w := by
  go_enter Try.func301, Try.ntmps301
  go_wp2_with fail
  refine (mul64_16 n hn w).mono ?_
  rintro e w' ⟨rfl, rfl⟩
  go_wp2_with fail
  go_ret2
  exact ⟨rfl, rfl⟩
/-- The first k cells of the block are filled. -/
def RepB (w : World) (g n k : Nat) (wx : World) : Prop := ∃ cur : List Value, wx.heap[g]? = some (.cells cur.toArray 3 (0, 0)) ∧ cur.length = n ∧ (∀ i, i < k → cur[i]? = some (.int .i64 (-1))) ∧ Below g w wx
section
variable {w wx u : World} {g n k m : Nat} {cur : List Value}
theorem RepB.call (h : RepB w g n k wx) (hb : Below wx.heap.size wx u) : RepB w g n k u := by
  obtain ⟨cur, h1, h2, h3, h4⟩ := h
  have hlt := (Array.getElem?_eq_some_iff.1 h1).1
  exact ⟨cur, (hb.block g hlt).trans h1, h2, h3, h4.trans (hb.mono (by omega))⟩
theorem rep_src (hg : wx.heap[g]? = some (.cells cur.toArray 3 (0, 0))) (hc : ∀ i, i < k → cur[i]? = some (.int .i64 (-1))) (hm : m ≤ k) {j : Nat} {v : Value} (hj : (List.replicate m (Value.int .i64 (-1)))[j]? = some v) : wx.cell? ((⟨g, 0, none⟩ : Addr).add j) = some v := by
  rw [List.getElem?_replicate] at hj
  split at hj
  · rename_i hlt
    cases hj
    have ea : ((⟨g, 0, none⟩ : Addr).add j) = ⟨g, j, none⟩ := by unfold Addr.add; split <;> simp_all
    rw [ea, ← hc j (Nat.lt_of_lt_of_le hlt hm)]
    simp [World.cell?, hg]
  · cases hj
theorem one_src {a m : Nat} (hA : wx.cell? ⟨a, 0, none⟩ = some (.int .i64 (-1))) (hm : m ≤ 1) {j : Nat} {v : Value} (hj : (List.replicate m (Value.int .i64 (-1)))[j]? = some v) : wx.cell? ((⟨a, 0, none⟩ : Addr).add j) = some v := by
  rw [List.getElem?_replicate] at hj
  split at hj
  · rename_i hlt
    cases hj
    obtain rfl : j = 0 := by omega
    have ea : ((⟨a, 0, none⟩ : Addr).add 0) = ⟨a, 0, none⟩ := by unfold Addr.add; split <;> simp_all
    rw [ea]; exact hA
  · cases hj
theorem rep_splice (hl : cur.length = n) (hc : ∀ i, i < k → cur[i]? = some (.int .i64 (-1))) (hm : k + m ≤ n) (hg : wx.heap[g]? = some (.cells (splice cur k (List.replicate m (.int .i64 (-1)))).toArray 3 (0, 0))) (hb : Below g w wx) : RepB w g n (k + m) wx := by
  refine ⟨_, hg, by rw [length_splice _ _ _ (by rw [List.length_replicate]; omega), hl], fun i hi => ?_, hb⟩
  unfold splice
  by_cases c : i < k
  · rw [List.getElem?_append_left (by rw [List.length_take]; omega), List.getElem?_take, if_pos c]; exact hc i c
  · rw [List.getElem?_append_right (by rw [List.length_take]; omega), List.length_take, Nat.min_eq_left (by omega), List.getElem?_append_left (by rw [List.length_replicate]; omega), List.getElem?_replicate, if_pos (by omega)]
theorem size_int16 : (Try.prog.info? 3).map (·.size) = some 1 := by kernel_rfl
end
set_option maxRecDepth 100000 in
set_option maxHeartbeats 3200000 in
theorem repeat16 (a : Nat) (n : Nat) (hn : n ≤ 1000) (w : World) (hA : w.cell? ⟨a, 0, none⟩ = some (.int .i64 (-1))) :
    Calls Try.prog 271 #[.slice (some ⟨a, 0, none⟩) 1 1, .int .i64 n] w fun e w' => e = .returned (.slice (some ⟨w.heap.size, 0, none⟩) n n) ∧ Below w.heap.size w w' ∧ SumC w' w.heap.size n (fun _ => -1) := by
  have hwu : IntKind.u64.wrap (n : Int) = (n : Int) := by rw [IntKind.wrap_u64]; omega
  have hws : IntKind.i64.wrap (n : Int) = (n : Int) := IntWalk.i64_in _ ⟨by omega, by omega⟩
  have hlim : ¬ (n : Int) > 9223372036854775807 := by omega
  have hlt0 : ¬ (n : Int) < 0 := by omega
  go_enter Try.func271, Try.ntmps271
  go_wp2_with fail
  refine (mul_16 n hn w).mono ?_
  rintro e w1 ⟨rfl, rfl⟩
  have hmk := make13 n (by omega) w1
  go_upto_region 7 with fail
  obtain ⟨v2, hv2⟩ : ∃ V, w1.alloc (.cells (madeCells #[.int .i64 0] n) 3) = V := ⟨_, rfl⟩
  have HR := Lib.hid (show RepB w1 w1.heap.size n 0 v2 from by
    rw [← hv2]
    exact ⟨(madeCells #[.int .i64 0] n).toList, by rw [Array.toArray_toList]; exact World.alloc_heap_new w1 _, by rw [Array.length_toList]; exact size_madeCells _ _, fun i hi => absurd hi (Nat.not_lt_zero _), (Below.refl _ _).alloc (Nat.le_refl _) _⟩)
  have HA2 := Lib.hid (show v2.cell? ⟨a, 0, none⟩ = some (.int .i64 (-1)) from by rw [← hv2]; exact (((Below.refl _ _).alloc (Nat.le_refl _) _ : Below w1.heap.size w1 _).cell (lt_of_cell hA)).trans hA)
  rw [hv2]
  clear hv2 hmk hA
  obtain ⟨g, hg⟩ : ∃ g, w1.heap.size = g := ⟨_, rfl⟩
  have HG := Lib.hid hg
  rw [hg] at HR ⊢
  clear hg hlim
  obtain ⟨m, hm⟩ : ∃ m, Nat.min 1 n = m := ⟨_, rfl⟩
  have hm1 : m ≤ 1 := by rw [← hm]; exact Nat.min_le_left ..
  have hmn : m ≤ n := by rw [← hm]; exact Nat.min_le_right ..
  have hm0 : n = 0 ∨ 1 ≤ m := by
    rcases Nat.eq_zero_or_pos n with h | h
    · exact .inl h
    · exact .inr (by rw [← hm]; exact Nat.le_min.2 ⟨Nat.le_refl _, h⟩)
  obtain ⟨cur, hg, hl, hc, hb⟩ := HR.out
  go_wp2_with (refine wpList_copy_splice rfl (.tmp 31) (.tmp 32) 22 22 rfl 3 Try.underlying22 size_int16 (some ⟨g, 0, none⟩) (some ⟨a, 0, none⟩) n n 1 1 rfl rfl g 0 cur _ hg (List.replicate m (.int .i64 (-1))) (by rw [List.length_replicate]; exact hm.symm) (fun _ => ⟨rfl, _, rfl, fun j v hj => one_src HA2.out hm1 hj⟩) (by rw [List.length_replicate, hl]; omega) (fun v hv => by rw [List.eq_of_mem_replicate hv]; rfl) g w1 hb (Nat.le_refl _) ?_)
  intro w3 hg3 hb3
  have HR3 := Lib.hid (show RepB w1 g n m w3 from by
    have := rep_splice (m := m) hl hc (by omega) hg3.out hb3
    rwa [Nat.zero_add] at this)
  clear hg hl hc hb hg3 hb3 cur HR HA2
  have HM := Lib.hid (And.intro hm1 (And.intro hmn hm0))
  clear hm hm1 hm0
  go_wp2_with fail
  go_loopw [8] (fun s8 wx => ∃ k : Nat, s8 = .int .i64 k ∧ k ≤ n ∧ Hid (n = 0 ∨ 1 ≤ k) ∧ Hid (RepB w1 g n k wx)) (fun s8 _ => n - (intOf s8).toNat)
  case atStart => exact ⟨m, by go_num, HM.out.2.1, Lib.hid HM.out.2.2, HR3⟩
  case round =>
    obtain ⟨k, rfl, hk, HK, HR⟩ := hrel
    obtain ⟨wk, rfl⟩ : ∃ u : World, u = wr := ⟨_, rfl⟩
    by_cases hlt : k < n
    · have hlI : (k : Int) < (n : Int) := by omega
      have hnk : ¬ n = k := by omega
      obtain ⟨d, hd⟩ : ∃ d, Nat.min k (n - k) = d := ⟨_, rfl⟩
      have HD := Lib.hid (show Nat.min k (n - k) = d ∧ d ≤ k ∧ d ≤ n - k ∧ 1 ≤ d from by
        refine ⟨hd, ?_, ?_, ?_⟩
        · rw [← hd]; exact Nat.min_le_left ..
        · rw [← hd]; exact Nat.min_le_right ..
        · rw [← hd]
          rcases HK.out with h | h
          · omega
          · exact Nat.le_min.2 ⟨h, by omega⟩)
      clear hd
      go_upto_region 9 with fail
      refine wp_region_keeps (fun u => True) 8 2 (by kernel_rfl) (by kernel_rfl) trivial (fun hHeld0 => ?_)
      obtain ⟨ud, hud⟩ : ∃ V, wk.drew = V := ⟨_, rfl⟩
      have HRd := Lib.hid (HR.out.call (show Below wk.heap.size wk ud by rw [← hud]; exact (Below.refl _ _).drew))
      rw [hud]
      clear hud
      refine wpAnyK_take (i := 0) (v := ?_) rfl (by kernel_rfl) (fun _ _ _ h => h) (Or.inl ⟨by rfl, ?_⟩) (by assumption) ?_
      rotate_left
      · (intro w hSw; (try dsimp only at hSw); go_simp; try with_reducible rfl)
      try simp only [Act.put, List.getElem_toArray, List.getElem_cons_zero, List.getElem_cons_succ, List.setIfInBounds_toArray, List.set_cons_zero, List.set_cons_succ]
      refine wpAnyK_take (i := 1) (v := ?_) rfl (by kernel_rfl) (fun _ _ _ h => h) (Or.inl ⟨by rfl, ?_⟩) (by assumption) ?_
      rotate_left
      · (intro w hSw; (try dsimp only at hSw); go_simp; try with_reducible rfl)
      try simp only [Act.put, List.getElem_toArray, List.getElem_cons_zero, List.getElem_cons_succ, List.setIfInBounds_toArray, List.set_cons_zero, List.set_cons_succ]
      refine wpAnyK_take (i := 2) (v := ?_) rfl (by kernel_rfl) (fun _ _ _ h => h) (Or.inl ⟨by rfl, ?_⟩) (by assumption) ?_
      rotate_left
      · (intro w hSw; (try dsimp only at hSw); go_simp; try with_reducible rfl)
      try simp only [Act.put, List.getElem_toArray, List.getElem_cons_zero, List.getElem_cons_succ, List.setIfInBounds_toArray, List.set_cons_zero, List.set_cons_succ]
      refine wpAnyK_take (i := 3) (v := ?_) rfl (by kernel_rfl) (fun _ _ _ h => h) (Or.inl ⟨by rfl, ?_⟩) (by assumption) ?_
      rotate_left
      · (intro w hSw; (try dsimp only at hSw); go_simp; try with_reducible rfl)
      try simp only [Act.put, List.getElem_toArray, List.getElem_cons_zero, List.getElem_cons_succ, List.setIfInBounds_toArray, List.set_cons_zero, List.set_cons_succ]
      refine wpAnyK_take (i := 4) (v := ?_) rfl (by kernel_rfl) (fun _ _ _ h => h) (Or.inl ⟨by rfl, ?_⟩) (by assumption) ?_
      rotate_left
      · (intro w hSw; (try dsimp only at hSw); go_simp; try with_reducible rfl)
      try simp only [Act.put, List.getElem_toArray, List.getElem_cons_zero, List.getElem_cons_succ, List.setIfInBounds_toArray, List.set_cons_zero, List.set_cons_succ]
      refine wpAnyK_take (i := 5) (v := ?_) rfl (by kernel_rfl) (fun _ _ _ h => h) (Or.inl ⟨by rfl, ?_⟩) (by assumption) ?_
      rotate_left
      · (intro w hSw; (try dsimp only at hSw); go_simp; try with_reducible rfl)
      try simp only [Act.put, List.getElem_toArray, List.getElem_cons_zero, List.getElem_cons_succ, List.setIfInBounds_toArray, List.set_cons_zero, List.set_cons_succ]
      refine wpAnyK_take (i := 6) (v := ?_) rfl (by kernel_rfl) (fun _ _ _ h => h) (Or.inl ⟨by rfl, ?_⟩) (by assumption) ?_
      rotate_left
      · (intro w hSw; (try dsimp only at hSw); go_simp; try with_reducible rfl)
      try simp only [Act.put, List.getElem_toArray, List.getElem_cons_zero, List.getElem_cons_succ, List.setIfInBounds_toArray, List.set_cons_zero, List.set_cons_succ]
      refine wpAnyK_step (i := 7) rfl (by kernel_rfl) (fun K hK => ?_)
      obtain ⟨cur, hg, hl, hc, hb⟩ := HRd.out
      refine step_copy_splice rfl (.tmp 41) (.tmp 44) 22 22 rfl 3 Try.underlying22 size_int16 (some ⟨g, k, none⟩) (some ⟨g, 0, none⟩) (n - k) (n - k) k n rfl rfl g k cur _ hg (List.replicate d (.int .i64 (-1))) (by rw [List.length_replicate]; exact HD.out.1.symm) (fun _ => ⟨rfl, _, rfl, fun j v hj => rep_src hg hc HD.out.2.1 hj⟩) (by rw [List.length_replicate, hl]; have := HD.out.2.2.1; omega) (fun v hv => by rw [List.eq_of_mem_replicate hv]; rfl) g w1 hb (Nat.le_refl _) ?_
      intro w4 hg4 hb4
      have HR4 := Lib.hid (show RepB w1 g n (k + d) w4 from rep_splice hl hc (by have := HD.out.2.2.1; omega) hg4.out hb4)
      clear hg hl hc hb hg4 hb4 cur
      refine hK.out _ _ trivial (fun _ => ?_)
      clear hK K
      rw [List.length_replicate]
      try simp only [Act.put, List.getElem_toArray, List.getElem_cons_zero, List.getElem_cons_succ, List.setIfInBounds_toArray, List.set_cons_zero, List.set_cons_succ]
      refine wpAnyK_done (by kernel_rfl) ?_
      simp only [List.drop_succ_cons, List.drop_zero]
      have hkd : k + d ≤ n := by have := HD.out.2.2.1; omega
      have hw4 : IntKind.i64.wrap ((k : Int) + (d : Int)) = (k : Int) + (d : Int) := IntWalk.i64_in _ ⟨by omega, by omega⟩
      have hd1 := HD.out.2.2.2
      go_wp2_with fail
      go_roundw
      case rel => exact ⟨k + d, by go_num, hkd, Lib.hid (.inr (by omega)), HR4⟩
      case measure => first | (simp [intOf]; done) | (simp [intOf]; omega)
    · obtain rfl : k = n := by omega
      have hkI : ¬ (k : Int) < (k : Int) := by omega
      go_wp2_with fail
      go_ret
      obtain ⟨cur, hg, hl, hc, hb⟩ := HR.out
      rw [HG.out]
      exact ⟨rfl, hb, cur.toArray, _, hg, by simpa using Nat.le_of_eq hl.symm, fun i hi => by simpa using hc i hi⟩
end Go.Proofs.Ytkienpbmoilheaa
