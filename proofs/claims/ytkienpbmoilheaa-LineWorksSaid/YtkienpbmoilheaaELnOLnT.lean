/- The document's Total of a run. By the verifier's side. -/
import Derived.Test.YtkienpbmoilheaaELnV
import Derived.Test.YtkienpbmoilheaaETrX
namespace Go.Proofs.Ytkienpbmoilheaa
open Go.RowKit
set_option linter.unusedSimpArgs false
set_option linter.unusedVariables false

theorem alloc_old (u : World) (o : Obj) {k : Nat} (h : k < u.heap.size) : (u.alloc o).heap[k]? = u.heap[k]? := ((Below.refl u.heap.size u).alloc (Nat.le_refl _) o).block k h
theorem valsF_succ (F : Nat → Int) (n : Nat) : valsF F (n + 1) = valsF F n ++ [F n] := by unfold valsF; rw [List.range_succ, List.map_append]; rfl
/-- What was sent of all classes. -/
def totS (Sn : Nat → Nat → Int) (t : Nat) : Nat → Int
  | 0 => 0
  | c + 1 => totS Sn t c + Sn c t
theorem totS_bd {Sn : Nat → Nat → Int} {t m : Nat} (h : ∀ j, j < m → 0 ≤ Sn j t ∧ Sn j t ≤ 90000) : ∀ k, k ≤ m → 0 ≤ totS Sn t k ∧ totS Sn t k ≤ 90000 * (k : Int)
  | 0, _ => ⟨Int.le_refl _, Int.le_refl _⟩
  | k + 1, hk => by
    have := totS_bd h k (by omega)
    have := h k (by omega)
    unfold totS; omega
/-- While the sums grow: the new run's box Q, its list of lists G. -/
structure TotS (w : World) (nd N : Nat) (da : Option Addr) (dc : Nat) (tot : Nat → Int) (y0 : Value) (B0 B1 G Q t : Nat) (v : Value) (wx : World) : Prop where
  bel : Below w.heap.size w wx
  hG : w.heap.size ≤ G ∧ G < Q ∧ w.heap.size ≤ B0 ∧ B0 < G ∧ w.heap.size ≤ B1 ∧ B1 < G ∧ B0 ≠ B1
  inp : TwoR wx B0 (.slice da nd dc) y0
  res : TwoR wx B1 (.slice none 0 0) (.slice none 0 0)
  bx : TwoR wx Q (.slice da nd dc) (.slice (some ⟨G, 0, none⟩) 1 1)
  ls : ∃ ty, wx.heap[G]? = some (.cells #[v] ty (0, 0))
  own : wx.ownsRow (Q + 1) 3 1 v t ((valsF tot t).map (Value.int .i64))
section
variable {w : World} {nd N : Nat} {da : Option Addr} {dc : Nat} {tot : Nat → Int} {y0 : Value} {B0 B1 G Q t : Nat} {v : Value} {wx wy : World}
theorem TotS.lt (h : TotS w nd N da dc tot y0 B0 B1 G Q t v wx) : Q < wx.heap.size := h.bx.lt
theorem TotS.call (h : TotS w nd N da dc tot y0 B0 B1 G Q t v wx) (hb : Below wx.heap.size wx wy) : TotS w nd N da dc tot y0 B0 B1 G Q t v wy := by
  obtain ⟨ty, g⟩ := h.ls
  exact ⟨h.bel.trans (hb.mono h.bel.size), h.hG, h.inp.under hb, h.res.under hb, h.bx.under hb, ⟨ty, (hb.block G (Array.getElem?_eq_some_iff.1 g).1).trans g⟩, own_below16 h.own hb⟩
theorem TotS.cells (h : TotS w nd N da dc tot y0 B0 B1 G Q t v wx) : wx.cell? ⟨Q, 1, none⟩ = some (.slice (some ⟨G, 0, none⟩) 1 1) ∧ wx.cell? ⟨G, 0, none⟩ = some v := by
  obtain ⟨ty, g⟩ := h.ls
  exact ⟨h.bx.cells.2, by simp [World.cell?, g]⟩
theorem TotS.grow (h : TotS w nd N da dc tot y0 B0 B1 G Q t v wx) {v' : Value} (ho : wy.ownsRow (Q + 1) 3 1 v' (t + 1) ((valsF tot t).map (Value.int .i64) ++ [.int .i64 (tot t)])) (hb : Below (Q + 1) wx wy) :
    wy.cell? ⟨Q, 1, none⟩ = some (.slice (some ⟨G, 0, none⟩) 1 1) ∧ wy.cell? ⟨G, 0, none⟩ = some v ∧ wy.frozen? ⟨G, 0, none⟩ = false ∧ TotS w nd N da dc tot y0 B0 B1 G Q (t + 1) v' (wy.setCell ⟨G, 0, none⟩ v') := by
  obtain ⟨ty, g⟩ := h.ls
  have hh := h.hG
  have g' := (hb.block G (by omega)).trans g
  have hx := h.bx.of_block (hb.block Q (by omega))
  refine ⟨hx.cells.2, by simp [World.cell?, g'], by simp [World.frozen?, g'], (h.bel.trans (hb.mono (by omega))).setCell (show w.heap.size ≤ G by omega) _, hh, (h.inp.of_block (hb.block B0 (by omega))).other (by omega) _ _, (h.res.of_block (hb.block B1 (by omega))).other (by omega) _ _, hx.other (by omega) _ _, ⟨ty, block_set 0 _ g'⟩, ?_⟩
  rw [valsF_succ, List.map_append]
  exact ownsRow_setCell_below ho (show G < Q + 1 by omega) _
end

set_option maxRecDepth 100000 in
set_option maxHeartbeats 6400000 in
theorem total16 (v0 : Value) (nd m N : Nat) (hm1 : 1 ≤ m) (Dn : Nat → Int) (Sn : Nat → Nat → Int) (tot : Nat → Int) (ht : ∀ t, t < N → totS Sn t m = tot t ∧ 0 ≤ tot t ∧ tot t ≤ 90000) (w : World) (h : RunR w v0 nd m N Dn Sn) :
    Calls Try.prog 88 #[v0] w fun e w' => ∃ v', e = .returned v' ∧ Below w.heap.size w w' ∧ RunR w' v' nd 1 N Dn (fun _ t => tot t) := by
  obtain ⟨da, dc, S, off, rfl, hd, hrow⟩ := h.ex
  have hm6 := h.m6
  have hN4 := h.n4
  have HD := Lib.hid hd
  have HR := Lib.hid hrow
  have HSB := Lib.hid h.sb
  have HT := Lib.hid ht
  have hr0 := hrow 0 (by omega)
  clear h hd hrow ht
  go_enter Try.func88, Try.ntmps88
  go_upto_region 2 with fail
  obtain ⟨w4, hw4⟩ : ∃ V, ((((w.alloc (.cells #[.slice da nd dc, .slice (some ⟨S, off, none⟩) m m] 91)).alloc (.cells #[.slice none 0 0, .slice none 0 0] 91)).alloc (.cells #[.slice none 0 0] 22)).alloc (.cells #[.slice da nd dc, .slice (some ⟨w.heap.size + 1 + 1, 0, none⟩) 1 1] 91)) = V := ⟨_, rfl⟩
  have HT0 := Lib.hid (show TotS w nd N da dc tot (.slice (some ⟨S, off, none⟩) m m) w.heap.size (w.heap.size + 1) (w.heap.size + 1 + 1) (w.heap.size + 1 + 1 + 1) 0 (.slice none 0 0) w4 from by
    rw [← hw4]
    have s1 : ∀ (a : Obj), (w.alloc a).heap.size = w.heap.size + 1 := fun a => by simp
    have s2 : ∀ (a b : Obj), ((w.alloc a).alloc b).heap.size = w.heap.size + 1 + 1 := fun a b => by simp
    have s3 : ∀ (a b c : Obj), (((w.alloc a).alloc b).alloc c).heap.size = w.heap.size + 1 + 1 + 1 := fun a b c => by simp
    have f1 : ∀ (a b c d : Obj), ((((w.alloc a).alloc b).alloc c).alloc d).heap[w.heap.size]? = some a := fun a b c d => by
      rw [alloc_old _ _ (by rw [s3]; omega), alloc_old _ _ (by rw [s2]; omega), alloc_old _ _ (by rw [s1]; omega)]; exact World.alloc_heap_new w a
    have f2 : ∀ (a b c d : Obj), ((((w.alloc a).alloc b).alloc c).alloc d).heap[w.heap.size + 1]? = some b := fun a b c d => by
      rw [alloc_old _ _ (by rw [s3]; omega), alloc_old _ _ (by rw [s2]; omega), ← s1 a]; exact World.alloc_heap_new (w.alloc a) b
    have f3 : ∀ (a b c d : Obj), ((((w.alloc a).alloc b).alloc c).alloc d).heap[w.heap.size + 1 + 1]? = some c := fun a b c d => by
      rw [alloc_old _ _ (by rw [s3]; omega), ← s2 a b]; exact World.alloc_heap_new ((w.alloc a).alloc b) c
    have f4 : ∀ (a b c d : Obj), ((((w.alloc a).alloc b).alloc c).alloc d).heap[w.heap.size + 1 + 1 + 1]? = some d := fun a b c d => by
      rw [← s3 a b c]; exact World.alloc_heap_new (((w.alloc a).alloc b).alloc c) d
    exact ⟨((((Below.refl _ _).alloc (Nat.le_refl _) _).alloc (by simp) _).alloc (by simp; omega) _).alloc (by simp; omega) _, by omega, ⟨_, f1 _ _ _ _⟩, ⟨_, f2 _ _ _ _⟩, ⟨_, f4 _ _ _ _⟩, ⟨_, f3 _ _ _ _⟩, World.ownsRow_nil _ _ _ _⟩)
  rw [hw4]
  clear hw4
  obtain ⟨B0, hB0⟩ : ∃ n, w.heap.size = n := ⟨_, rfl⟩
  obtain ⟨B1, hB1⟩ : ∃ n, w.heap.size + 1 = n := ⟨_, rfl⟩
  obtain ⟨G, hG⟩ : ∃ n, w.heap.size + 1 + 1 = n := ⟨_, rfl⟩
  obtain ⟨Q, hQ⟩ : ∃ n, w.heap.size + 1 + 1 + 1 = n := ⟨_, rfl⟩
  rw [hQ, hG, hB1, hB0] at HT0 ⊢
  clear hQ hG hB1
  have HB0 := Lib.hid hB0
  clear hB0
  obtain ⟨x00, k00, g00, _, _⟩ := hr0
  rw [Nat.add_zero] at g00
  have HG0 := Lib.hid g00
  clear g00
  go_wp2_with fail
  go_loopw [4] (fun s4 wx => ∃ (t : Nat) (v : Value), s4 = .int .i64 t ∧ t ≤ N ∧ Hid (TotS w nd N da dc tot (.slice (some ⟨S, off, none⟩) m m) B0 B1 G Q t v wx)) (fun s4 _ => N - (intOf s4).toNat)
  case atStart => exact ⟨0, _, by go_num, Nat.zero_le _, HT0⟩
  case round =>
    obtain ⟨t, v, rfl, htN, HT1⟩ := hrel
    obtain ⟨wt, rfl⟩ : ∃ u : World, u = wr := ⟨_, rfl⟩
    clear HT0
    obtain ⟨_, i1⟩ := HT1.out.inp.cells
    have g0 := (HT1.out.bel.cell (lt_of_cell HG0.out)).trans HG0.out
    have hmI : (m : Int) > 0 := by omega
    by_cases hlt : t < N
    · have hlI : (t : Int) < (N : Int) := by omega
      go_wp2_with fail
      go_loopw [6, 5] (fun s6 s5 wx => ∃ c : Nat, s6 = .int .i64 c ∧ s5 = .int .i64 (totS Sn t c) ∧ c ≤ m ∧ Hid (TotS w nd N da dc tot (.slice (some ⟨S, off, none⟩) m m) B0 B1 G Q t v wx)) (fun s6 _ _ => m - (intOf s6).toNat)
      case atStart => exact ⟨0, by go_num, rfl, Nat.zero_le _, HT1⟩
      case round =>
        obtain ⟨c, rfl, rfl, hc, HJ⟩ := hrel
        obtain ⟨wj, rfl⟩ : ∃ u : World, u = wr := ⟨_, rfl⟩
        clear HT1 i1 g0
        obtain ⟨_, i1⟩ := HJ.out.inp.cells
        by_cases hltc : c < m
        · have hcI : (c : Int) < (m : Int) := by omega
          obtain ⟨x, k, gx, zx, B, o, rfl⟩ := HR.out c hltc
          have gx' := (HJ.out.bel.cell (lt_of_cell gx)).trans gx
          obtain ⟨y, z, hy, hcy, _, hzt, _⟩ := row_get16 (zx.under HJ.out.bel) hlt
          rw [valsF_at _ hlt] at hzt
          cases hy
          rw [WideShapes.add_plain] at hcy
          have hb1 := totS_bd (Sn := Sn) (t := t) (m := m) (fun j hj => HSB.out j hj t hlt) c hc
          have hb2 := HSB.out c hltc t hlt
          rw [hzt] at hb2
          obtain ⟨a, ha⟩ : ∃ a, totS Sn t c = a := ⟨_, rfl⟩
          rw [ha] at hb1 ⊢
          have hwa : IntKind.i64.wrap (a + z) = a + z := IntWalk.i64_in _ ⟨by omega, by omega⟩
          have HN := Lib.hid (show a + z = totS Sn t (c + 1) from by
            show a + z = totS Sn t c + Sn c t
            rw [ha, hzt])
          have hkl := zx.le
          have hkm := zx.cm
          clear gx zx hzt ha
          go_wp2_with fail
          go_roundw
          case rel => exact ⟨c + 1, by go_num, by rw [HN.out], by omega, HJ⟩
          case measure => first | (simp [intOf]; done) | (simp [intOf]; omega)
        · obtain rfl : m = c := by omega
          have hcI : ¬ (m : Int) < (m : Int) := by omega
          rw [(HT.out t hlt).1]
          have htb := (HT.out t hlt).2
          have hHS := Lib.hid (show wj.drew.cell? ⟨Q, 1, none⟩ = some (.slice (some ⟨G, 0, none⟩) 1 1) ∧ wj.drew.cell? ⟨G, 0, none⟩ = some v from HJ.out.cells)
          go_upto_region 11 with fail
          refine wp_region_keeps (fun u => u.cell? ⟨Q, 1, none⟩ = some (.slice (some ⟨G, 0, none⟩) 1 1) ∧ u.cell? ⟨G, 0, none⟩ = some v) 9 2 (by kernel_rfl) (by kernel_rfl) hHS.out (fun hHeld0 => ?_)
          obtain ⟨ud, hud⟩ : ∃ V, wj.drew = V := ⟨_, rfl⟩
          have HTd := Lib.hid (show TotS w nd N da dc tot (.slice (some ⟨S, off, none⟩) m m) B0 B1 G Q t v ud from by rw [← hud]; exact HJ.out.call ((Below.refl _ _).drew))
          rw [hud] at hHeld0 ⊢
          clear hud hHS
          refine wpAnyK_take (i := 0) (v := ?_) rfl (by kernel_rfl) (fun _ _ _ h => h) (Or.inl ⟨by rfl, ?_⟩) (by assumption) ?_
          rotate_left
          · (intro w hSw; (try dsimp only at hSw); go_simp; try with_reducible rfl)
          try simp only [Act.put, List.getElem_toArray, List.getElem_cons_zero, List.getElem_cons_succ, List.setIfInBounds_toArray, List.set_cons_zero, List.set_cons_succ]
          refine wpAnyK_take (i := 1) (v := ?_) rfl (by kernel_rfl) (fun _ _ _ h => h) (Or.inl ⟨by rfl, ?_⟩) (by assumption) ?_
          rotate_left
          · (intro w hSw; (try dsimp only at hSw); go_simp; try with_reducible rfl)
          try simp only [Act.put, List.getElem_toArray, List.getElem_cons_zero, List.getElem_cons_succ, List.setIfInBounds_toArray, List.set_cons_zero, List.set_cons_succ]
          refine wpAnyK_take (i := 2) (v := ?_) rfl (by kernel_rfl) (fun _ _ _ h => h) (Or.inl ⟨by rfl, ?_⟩) (by assumption) ?_
          rotate_left
          · (intro w hSw; (try dsimp only at hSw); go_simp; try with_reducible rfl)
          try simp only [Act.put, List.getElem_toArray, List.getElem_cons_zero, List.getElem_cons_succ, List.setIfInBounds_toArray, List.set_cons_zero, List.set_cons_succ]
          refine wpAnyK_take (i := 3) (v := ?_) rfl (by kernel_rfl) (fun _ _ _ h => h) (Or.inl ⟨by rfl, ?_⟩) (by assumption) ?_
          rotate_left
          · (intro w hSw; (try dsimp only at hSw); go_simp; try with_reducible rfl)
          try simp only [Act.put, List.getElem_toArray, List.getElem_cons_zero, List.getElem_cons_succ, List.setIfInBounds_toArray, List.set_cons_zero, List.set_cons_succ]
          refine wpAnyK_take (i := 4) (v := ?_) rfl (by kernel_rfl) (fun _ _ _ h => h) (Or.inl ⟨by rfl, ?_⟩) (by assumption) ?_
          rotate_left
          · (intro w hSw; (try dsimp only at hSw); go_simp; try with_reducible rfl)
          try simp only [Act.put, List.getElem_toArray, List.getElem_cons_zero, List.getElem_cons_succ, List.setIfInBounds_toArray, List.set_cons_zero, List.set_cons_succ]
          refine wpAnyK_take (i := 5) (v := ?_) rfl (by kernel_rfl) (fun _ _ _ h => h) (Or.inl ⟨by rfl, ?_⟩) (by assumption) ?_
          rotate_left
          · (intro w hSw; (try dsimp only at hSw); go_simp; try with_reducible rfl)
          try simp only [Act.put, List.getElem_toArray, List.getElem_cons_zero, List.getElem_cons_succ, List.setIfInBounds_toArray, List.set_cons_zero, List.set_cons_succ]
          refine wpAnyK_take (i := 6) (v := ?_) rfl (by kernel_rfl) (fun _ _ _ h => h) (Or.inl ⟨by rfl, ?_⟩) (by assumption) ?_
          rotate_left
          · (intro w hSw; (try dsimp only at hSw); go_simp; try with_reducible rfl)
          try simp only [Act.put, List.getElem_toArray, List.getElem_cons_zero, List.getElem_cons_succ, List.setIfInBounds_toArray, List.set_cons_zero, List.set_cons_succ]
          refine wpAnyK_step (i := 7) rfl (by kernel_rfl) (fun K hK => ?_)
          go_simp
          obtain ⟨y7, hy7⟩ : ∃ V, ud.alloc (.cells #[.int .i64 (tot t)] 3) = V := ⟨_, rfl⟩
          have hb7 : Below ud.heap.size ud y7 := by rw [← hy7]; exact (Below.refl _ _).alloc (Nat.le_refl _) _
          have HT7 := Lib.hid (HTd.out.call hb7)
          have CC7 := Lib.hid (show y7.cell? ((⟨ud.heap.size, 0, none⟩ : Addr).add 0) = some (.int .i64 (tot t)) from by
            have ea : ((⟨ud.heap.size, 0, none⟩ : Addr).add 0) = ⟨ud.heap.size, 0, none⟩ := by unfold Addr.add; split <;> simp_all
            rw [ea, ← hy7]; exact cell_new13 rfl)
          rw [hy7]
          refine hK.out _ _ ⟨HT7.out.cells.1, HT7.out.cells.2⟩ (fun hHeld1 => ?_)
          clear hK K hy7 hb7 hHeld0
          obtain ⟨b7, hb7⟩ : ∃ n, ud.heap.size = n := ⟨_, rfl⟩
          rw [hb7] at CC7 ⊢
          clear hb7
          try simp only [Act.put, List.getElem_toArray, List.getElem_cons_zero, List.getElem_cons_succ, List.setIfInBounds_toArray, List.set_cons_zero, List.set_cons_succ]
          refine wpAnyK_step (i := 8) rfl (by kernel_rfl) (fun K hK => ?_)
          rw [if_pos (by rfl)]
          refine wp_append_int _ _ rfl (Q + 1) v t ((valsF tot t).map (Value.int .i64)) rfl HT7.out.own ⟨b7, 0, none⟩ (tot t) rfl CC7.out (by omega) HT7.out.lt ?_
          intro v8 y8 ho8 hb8 _
          obtain ⟨a8, n8, c8, rfl⟩ : ∃ a n c, v8 = .slice a n c := by
            rcases ho8.2 with h | ⟨g, c, _, h, _⟩
            · exact ⟨_, _, _, h.1⟩
            · exact ⟨_, _, _, h⟩
          have HT8 := Lib.hid (HT7.out.grow ho8 hb8)
          clear ho8 hb8
          refine hK.out _ _ ⟨HT8.out.1, HT8.out.2.1⟩ (fun hHeld2 => ?_)
          clear hK K hHeld1
          try simp only [Act.put, List.getElem_toArray, List.getElem_cons_zero, List.getElem_cons_succ, List.setIfInBounds_toArray, List.set_cons_zero, List.set_cons_succ]
          refine wpAnyK_done (by kernel_rfl) ?_
          simp only [List.drop_succ_cons, List.drop_zero]
          clear hHeld2
          have hz1 := HT8.out.1
          have hz2 := HT8.out.2.1
          have hz3 := HT8.out.2.2.1
          go_wp2_with fail
          go_roundw
          case rel => exact ⟨t + 1, .slice a8 n8 c8, by go_num, by omega, Lib.hid HT8.out.2.2.2⟩
          case measure => first | (simp [intOf]; done) | (simp [intOf]; omega)
    · obtain rfl : N = t := by omega
      have hlI : ¬ (N : Int) < (N : Int) := by omega
      have HH := Lib.hid HT1.out.hG
      have HRS := Lib.hid (show TwoR (wt.setCell ⟨B1, 0, none⟩ (.slice da nd dc)) B1 (.slice da nd dc) (.slice none 0 0) from by obtain ⟨ty, g⟩ := HT1.out.res; exact ⟨ty, block_set 0 _ g⟩)
      have HR2 := Lib.hid (HT1.out.res.set (.slice da nd dc) (.slice (some ⟨G, 0, none⟩) 1 1))
      obtain ⟨q0, q1⟩ := HT1.out.res.cells
      have qf := HT1.out.res.frozen 0
      have qf1 := HRS.out.frozen 1
      have q2 := HRS.out.cells.2
      obtain ⟨q3, q4⟩ := HR2.out.cells
      obtain ⟨p0, p1⟩ := HT1.out.bx.cells
      have HP9 := Lib.hid (show ∃ v', Ending.returned (.agg #[.slice da nd dc, .slice (some ⟨G, 0, none⟩) 1 1]) = .returned v' ∧ Below w.heap.size w ((wt.setCell ⟨B1, 0, none⟩ (.slice da nd dc)).setCell ⟨B1, 1, none⟩ (.slice (some ⟨G, 0, none⟩) 1 1)) ∧ RunR ((wt.setCell ⟨B1, 0, none⟩ (.slice da nd dc)).setCell ⟨B1, 1, none⟩ (.slice (some ⟨G, 0, none⟩) 1 1)) v' nd 1 N Dn (fun _ t => tot t) from by
        have hh := HH.out
        have hbb : Below w.heap.size w ((wt.setCell ⟨B1, 0, none⟩ (.slice da nd dc)).setCell ⟨B1, 1, none⟩ (.slice (some ⟨G, 0, none⟩) 1 1)) := (HT1.out.bel.setCell (show w.heap.size ≤ B1 by omega) _).setCell (show w.heap.size ≤ B1 by omega) _
        refine ⟨_, rfl, hbb, ⟨da, dc, G, 0, rfl, HD.out.under hbb, fun c hc => ?_⟩, fun c _ t ht => (HT.out t ht).2, by omega, hN4⟩
        obtain rfl : c = 0 := by omega
        obtain ⟨aa, cap, hv, hrw, hfar⟩ := rowZ_of_owns HT1.out.own (by omega) (fun i hi => by
          rw [valsF_len] at hi
          rw [valsF_at _ hi]
          have := (HT.out i hi).2
          exact ⟨by omega, by omega⟩)
        have hcg := (cell_other (w := wt.setCell ⟨B1, 0, none⟩ (.slice da nd dc)) (show G ≠ B1 by omega) 0 1 (.slice (some ⟨G, 0, none⟩) 1 1)).trans ((cell_other (w := wt) (show G ≠ B1 by omega) 0 0 (.slice da nd dc)).trans HT1.out.cells.2)
        refine ⟨aa, cap, by rw [Nat.add_zero, hcg, hv], ?_, ?_⟩
        · refine ⟨hrw.len, hrw.le, hrw.sm, hrw.cm, fun i hi => ?_, hrw.bd⟩
          obtain ⟨x, hx, hc⟩ := hrw.cell i hi
          have hf := hfar x hx
          refine ⟨x, hx, ?_⟩
          have hxb : (x.add i).block = x.block := by rw [add_block]
          rw [World.cell?_of_block (w := wt.setCell ⟨B1, 0, none⟩ (.slice da nd dc)) (Below.heap_setCell _ _ _ _ (by rw [hxb]; show x.block ≠ B1; omega)), World.cell?_of_block (w := wt) (Below.heap_setCell _ _ _ _ (by rw [hxb]; show x.block ≠ B1; omega))]
          exact hc
        · rcases HT1.out.own.2 with ⟨_, h0⟩ | ⟨g, cp, cu, hvv, _⟩
          · omega
          · rw [hv] at hvv
            simp only [Value.slice.injEq] at hvv
            exact ⟨g, 0, hvv.1⟩)
      go_wp2_with fail
      exact bodyPost_ret (v := .agg #[.slice da nd dc, .slice (some ⟨G, 0, none⟩) 1 1]) (by simp [results, Try.results88, go_sem, q3, q4]) rfl HP9.out
end Go.Proofs.Ytkienpbmoilheaa

namespace Go.Proofs.Ytkienpbmoilheaa
open Go.RowKit
set_option linter.unusedSimpArgs false
set_option linter.unusedVariables false

def oneP (q : Pk) : Pk := ⟨0, q.t, q.s⟩
/-- The first i packets are of the class 0. -/
def oneL (lp : List Pk) (i : Nat) : List Pk := (lp.take i).map oneP ++ lp.drop i
theorem oneL_zero (lp : List Pk) : oneL lp 0 = lp := by unfold oneL; simp
theorem oneL_all (lp : List Pk) : oneL lp lp.length = lp.map oneP := by unfold oneL; simp
theorem oneL_len (lp : List Pk) (i : Nat) : (oneL lp i).length = lp.length := by unfold oneL; simp; omega
theorem oneL_at {lp : List Pk} {i : Nat} {q : Pk} (h : lp[i]? = some q) : (oneL lp i)[i]? = some q := by
  have hi := (List.getElem?_eq_some_iff.1 h).1
  unfold oneL
  rw [List.getElem?_append_right (by simp; omega), List.getElem?_drop, List.length_map, List.length_take, Nat.min_eq_left (by omega), Nat.sub_self, Nat.add_zero]
  exact h
theorem oneL_succ {lp : List Pk} {i : Nat} {q : Pk} (h : lp[i]? = some q) : oneL lp (i + 1) = (oneL lp i).set i ⟨0, q.t, q.s⟩ := by
  have hi := (List.getElem?_eq_some_iff.1 h).1
  refine List.ext_getElem? fun j => ?_
  by_cases e : j = i
  · subst e
    rw [List.getElem?_set_self (by rw [oneL_len]; omega)]
    unfold oneL
    rw [List.getElem?_append_left (by simp; omega), List.getElem?_map, List.getElem?_take, if_pos (by omega), h]; rfl
  · rw [List.getElem?_set_ne (fun x => e x.symm)]
    unfold oneL
    by_cases c : j < i
    · rw [List.getElem?_append_left (by simp; omega), List.getElem?_append_left (by simp; omega), List.getElem?_map, List.getElem?_map, List.getElem?_take, List.getElem?_take, if_pos (by omega), if_pos c]
    · rw [List.getElem?_append_right (by simp; omega), List.getElem?_append_right (by simp; omega), List.getElem?_drop, List.getElem?_drop]
      simp only [List.length_map, List.length_take]
      congr 1
      omega
theorem PkO.setFl {u : World} {B off : Nat} {l : List Pk} (h : PkO u B off l) {i : Nat} {q : Pk} (hq : l[i]? = some q) (s : Int) : PkO (u.setCell ⟨B, off + i * 3, none⟩ (.int .i64 s)) B off (l.set i ⟨s, q.t, q.s⟩) := by
  obtain ⟨cs, t, hb, hc⟩ := h
  have hi := (List.getElem?_eq_some_iff.1 hq).1
  refine ⟨_, t, block_set _ _ hb, fun j r hj => ?_⟩
  by_cases e : j = i
  · subst e
    rw [List.getElem?_set_self hi] at hj
    cases hj
    obtain ⟨h1, h2, h3⟩ := hc j _ hq
    have k1 := (Array.getElem?_eq_some_iff.1 h1).1
    refine ⟨?_, ?_, ?_⟩
    · rw [Array.getElem?_setIfInBounds_self_of_lt k1]
    · rw [Array.getElem?_setIfInBounds_ne (by omega)]; exact h2
    · rw [Array.getElem?_setIfInBounds_ne (by omega)]; exact h3
  · rw [List.getElem?_set_ne (fun x => e x.symm)] at hj
    obtain ⟨h1, h2, h3⟩ := hc j r hj
    refine ⟨?_, ?_, ?_⟩ <;> rw [Array.getElem?_setIfInBounds_ne (by omega)] <;> assumption
structure OneS (w : World) (lp : List Pk) (n g i : Nat) (aq : Option Addr) (wx : World) : Prop where
  bel : Below w.heap.size w wx
  own : n = 0 ∨ aq = some ⟨g, 0, none⟩ ∧ w.heap.size ≤ g ∧ PkO wx g 0 (oneL lp i)
theorem OneS.next {w wx : World} {lp : List Pk} {n g i : Nat} {aq : Option Addr} {q : Pk} (h : OneS w lp n g i aq wx) (hi : i < n) (hq : lp[i]? = some q) : OneS w lp n g (i + 1) aq (wx.setCell ⟨g, i * 3, none⟩ (.int .i64 0)) := by
  rcases h.own with h0 | ⟨h1, h2, h3⟩
  · omega
  · refine ⟨h.bel.setCell h2 _, .inr ⟨h1, h2, ?_⟩⟩
    have := h3.setFl (oneL_at hq) 0
    rw [oneL_succ hq]
    rwa [Nat.zero_add] at this
theorem one_bd {lp : List Pk} (h : ∀ q ∈ lp, Pk64 q) : ∀ q ∈ lp.map oneP, Pk64 q := fun q hq => by
  obtain ⟨y, hy, rfl⟩ := List.mem_map.1 hq
  obtain ⟨h1, h2, h3⟩ := h y hy
  exact ⟨⟨by show -9223372036854775808 ≤ (0 : Int); omega, by show (0 : Int) ≤ 9223372036854775807; omega⟩, h2, h3⟩

set_option maxRecDepth 100000 in
set_option maxHeartbeats 3200000 in
theorem one16 (a1 : Option Addr) (n1 c1 : Nat) (lp : List Pk) (w : World) (h : PkR w a1 n1 c1 lp) (hn : n1 ≤ 1000) :
    Calls Try.prog 91 #[.slice a1 n1 c1] w (GivesOwn (lp.map oneP) w) := by
  have H := Lib.hid h
  have HLEN := Lib.hid h.len
  have HBD := Lib.hid (one_bd h.bd)
  clear h
  go_enter Try.func91, Try.ntmps91
  go_wp2_with (at_builtin; refine wpList_append_pk rfl (.const (.slice none 0 0)) _ rfl w.heap.size (.slice none 0 0) 0 [] rfl (World.ownsRow_nil _ _ _ _) a1 n1 c1 lp rfl H.out (by omega) (Nat.le_refl _) ?_)
  intro v5 ww5 ho5 hb5
  try simp only [Nat.zero_add, List.nil_append] at ho5
  obtain ⟨_, aq, cq, rfl, hq1, hq2, hq3, hq4⟩ := pkO_of_owns ho5
  obtain ⟨g, hg⟩ : ∃ g, n1 = 0 ∨ aq = some ⟨g, 0, none⟩ ∧ w.heap.size ≤ g ∧ PkO ww5 g 0 lp := by
    rcases hq4 with ⟨_, h⟩ | ⟨g, h1, h2, h3⟩
    · exact ⟨0, .inl h⟩
    · exact ⟨g, .inr ⟨h1, h2, h3⟩⟩
  have HQ := Lib.hid (And.intro hq1 (And.intro hq2 hq3))
  have HA := Lib.hid (show OneS w lp n1 g 0 aq ww5 from ⟨hb5, by rw [oneL_zero]; exact hg⟩)
  clear ho5 hb5 hq1 hq2 hq3 hq4 hg
  go_wp2_with fail
  go_loopw [4] (fun vi wx => ∃ i : Nat, vi = .int .i64 i ∧ i ≤ n1 ∧ Hid (OneS w lp n1 g i aq wx)) (fun vi _ => n1 - (intOf vi).toNat)
  case atStart => exact ⟨0, by go_num, Nat.zero_le _, HA⟩
  case round =>
    obtain ⟨i, rfl, hi, HI⟩ := hrel
    obtain ⟨wi, rfl⟩ : ∃ u : World, u = wr := ⟨_, rfl⟩
    by_cases hlt : i < n1
    · have hlI : (i : Int) < (n1 : Int) := by omega
      obtain ⟨hag, hgs, hpo⟩ : aq = some ⟨g, 0, none⟩ ∧ w.heap.size ≤ g ∧ PkO wi g 0 (oneL lp i) := by
        rcases HI.out.own with h | h
        · omega
        · exact h
      have hq : lp[i]? = some (lp.getD i default) := by rw [List.getD_eq_getElem?_getD, List.getElem?_eq_getElem (by rw [HLEN.out]; exact hlt)]; rfl
      obtain ⟨q, hqe⟩ : ∃ q, lp.getD i default = q := ⟨_, rfl⟩
      rw [hqe] at hq
      have HN := Lib.hid (HI.out.next hlt hq)
      have c2 := (hpo.cells i q (oneL_at hq)).1
      rw [Nat.zero_add] at c2
      have cf := hpo.frozen (i * 3)
      have hcl := HQ.out.1
      have hcm := HQ.out.2.1
      subst hag
      clear hqe hq hpo
      go_wp2_with fail
      go_roundw
      case rel => exact ⟨i + 1, by go_num, by omega, HN⟩
      case measure => first | (simp [intOf]; done) | (simp [intOf]; omega)
    · obtain rfl : i = n1 := by omega
      have hlI : ¬ (i : Int) < (i : Int) := by omega
      go_wp2_with fail
      go_ret
      refine ⟨aq, i, cq, rfl, HI.out.bel, ⟨by rw [List.length_map]; exact HLEN.out, HQ.out.1, by omega, HQ.out.2.1, ?_, HBD.out⟩, HQ.out.2.2⟩
      rcases HI.out.own with h | ⟨h1, h2, h3⟩
      · exact .inl ⟨h, fun _ _ => trivial⟩
      · have := h3.cells
        rw [show i = lp.length from HLEN.out.symm, oneL_all] at this
        exact .inr ⟨g, 0, h1, this⟩
end Go.Proofs.Ytkienpbmoilheaa
