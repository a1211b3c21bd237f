/- The walk of PacketArrives. By the verifier's side. -/
import Derived.Test.YthljhddnfflpjaaPCfUCfZ
import Derived.Test.YthljhddnfflpjaaPHp1PkW
import Derived.Test.YthljhddnfflpjaaPAvMAvLPkMPkS
import Derived.Test.YthljhddnfflpjaaPCfL3TrYCfR
import Derived.Test.YthljhddnfflpjaaPRTrC
import Derived.Test.YthljhddnfflpjaaPTrPTrQ
import Derived.Test.YthljhddnfflpjaaPBaseApartPickKeepS
namespace Go.Proofs.Ythljhddnfflpjaa
open Go.RowKit
set_option linter.unusedSimpArgs false
set_option linter.unusedVariables false

theorem dgo_zero : ∀ (p : List Pk) (d : List Int), p.length = d.length → (∀ i, i < p.length → d.getD i 0 = -1 ∨ (p.getD i default).t ≤ d.getD i 0 ∧ d.getD i 0 ≤ 1999) → dgo p d = 0
  | [], d, _, _ => by cases d <;> rfl
  | q :: r, [], hl, _ => by simp at hl
  | q :: r, x :: d, hl, h => by
    have h0 := h 0 (by simp)
    change x = -1 ∨ q.t ≤ x ∧ x ≤ 1999 at h0
    unfold dgo
    rw [if_neg (by omega)]
    exact dgo_zero r d (by simpa using hl) (fun i hi => h (i + 1) (by simp; omega))
theorem dcode_zero {p : List Pk} {d : List Int} (hv : vcode p = 0) (hl : d.length = p.length) (h : ∀ i, i < p.length → d.getD i 0 = -1 ∨ (p.getD i default).t ≤ d.getD i 0 ∧ d.getD i 0 ≤ 1999) : dcode p d = 0 := by
  unfold dcode
  rw [if_pos hv, if_pos hl, dgo_zero p d hl.symm h]
/-- What is forwarded is a valid trace. -/
theorem fwd_valid {l : List Pk} {D : List Int} (h : dcode l D = 0) : vcode (fwdP l D) = 0 := by
  have hv := (dcode_ok h).1
  unfold fwdP
  rw [if_pos h]
  refine vcode_of ?_ (fun q hq => ?_) ?_
  · rw [List.length_map, isort_length_a]
    exact Nat.le_trans (arrL_len l D l.length) (vcode_ok hv).1
  · obtain ⟨x, hx, rfl⟩ := List.mem_map.1 hq
    obtain ⟨i, q0, h1, h2, h3, h4, h5, h6⟩ := arr_mem h hx
    have h7 := (okP_iff q0).1 h6
    subst h5
    refine (okP_iff _).2 ?_
    show 0 ≤ q0.f ∧ q0.f ≤ 59 ∧ 0 ≤ D.getD i 0 + 1 ∧ D.getD i 0 + 1 ≤ 2000 ∧ 1 ≤ q0.s ∧ q0.s ≤ 1500
    omega
  · exact List.Pairwise.map _ (fun a b hab => hab) (isort_asc_a _)
/-- Its sums. -/
theorem fwd_byt {l : List Pk} {D : List Int} (h : dcode l D = 0) (t : Int) : bytW t (sel (-1) (fwdP l D)) = sumI (fun i => if 0 ≤ D.getD i 0 ∧ D.getD i 0 + 1 < t then szI l i else 0) l.length := by
  rw [bytW_in (fwd_valid h), sel_all]
  unfold fwdP
  rw [if_pos h, fwd_sum]
  obtain ⟨hv, hl, hd⟩ := dcode_ok h
  refine sumI_congr _ fun i hi => ?_
  have hq : okP (l.getD i default) = true := (vcode_ok hv).2.1 _ (by rw [List.getD_eq_getElem?_getD, List.getElem?_eq_getElem hi]; exact List.getElem_mem _)
  have h7 := (okP_iff _).1 hq
  rcases dgo_ok l D hl.symm hd i hi with h1 | ⟨h1, h2⟩
  · rw [if_pos h1, if_neg (by omega)]
  · rw [if_neg (by omega)]
    unfold bytT szI
    show (if D.getD i 0 + 1 < t then (l.getD i default).s else 0) = _
    by_cases c : D.getD i 0 + 1 < t
    · rw [if_pos c, if_pos (by omega)]
    · rw [if_neg c, if_neg (by omega)]

/-- A row of numbers that is not the reader's. -/
theorem own_apart15 {u v : World} {b base : Nat} {x : Value} {k : Nat} {xs : List Value} {e : TypeId} {s : Nat} (h : u.ownsRow base e s x k xs) (ha : Apart b u v) (hb : b < base) : v.ownsRow base e s x k xs := by
  obtain ⟨hl, hr⟩ := h
  refine ⟨hl, ?_⟩
  rcases hr with h0 | ⟨g, cap, cur, hv, hbase, hg, h1, h2, h3, h4⟩
  · exact .inl h0
  · exact .inr ⟨g, cap, cur, hv, hbase, (ha.block _ (Array.getElem?_eq_some_iff.1 hg).1 (by omega)).trans hg, h1, h2, h3, h4⟩
/-- While the ticks are drawn: the source, the trace, the list of ticks. -/
structure ArS (w1 : World) (b : Nat) (ra : Option Addr) (rn rc : Nat) (a1 : Option Addr) (n1 c1 : Nat) (lp : List Pk) (base k : Nat) (x : Value) (wx : World) : Prop where
  src : Hld13 w1 b ra rn rc wx
  pk : PkR wx a1 n1 c1 lp
  far : ∀ z, a1 = some z → ¬ z.block = b
  hb : b < w1.heap.size
  hw : w1.heap.size ≤ base
  low : ∀ z, a1 = some z → 1 ≤ n1 → z.block < base
  hs : base ≤ wx.heap.size
  own : ∃ D : List Int, D.length = k ∧ wx.ownsRow base 3 1 x k (D.map (Value.int .i64)) ∧ ∀ i, i < k → D.getD i 0 = -1 ∨ (lp.getD i default).t ≤ D.getD i 0 ∧ D.getD i 0 ≤ (lp.getD i default).t + 8
section
variable {w1 : World} {b : Nat} {ra : Option Addr} {rn rc : Nat} {a1 : Option Addr} {n1 c1 : Nat} {lp : List Pk} {base k : Nat} {x : Value} {u v : World}
theorem pkR_block (h : PkR u a1 n1 c1 lp) (hb : ∀ z, a1 = some z → 1 ≤ n1 → v.heap[z.block]? = u.heap[z.block]?) : PkR v a1 n1 c1 lp := by
  rcases Nat.eq_zero_or_pos n1 with h0 | h0
  · exact ⟨h.len, h.le, h.sm, h.cm, .inl ⟨h0, fun _ _ => trivial⟩, h.bd⟩
  · exact ⟨h.len, h.le, h.sm, h.cm, h.place.imp id fun ⟨B, off, he, hc⟩ => ⟨B, off, he, hc.of_block fun _ => hb _ he h0⟩, h.bd⟩
theorem pkR_lt (h : PkR u a1 n1 c1 lp) : ∀ z, a1 = some z → 1 ≤ n1 → z.block < u.heap.size := fun z hz h1 => by
  rcases h.place with ⟨h0, _⟩ | ⟨B, off, he, hc⟩
  · omega
  · rw [he] at hz; cases hz
    exact hc.lt (List.getElem?_eq_getElem (show 0 < lp.length by rw [h.len]; omega))
theorem ArS.call (h : ArS w1 b ra rn rc a1 n1 c1 lp base k x u) (hb : Below u.heap.size u v) : ArS w1 b ra rn rc a1 n1 c1 lp base k x v := by
  obtain ⟨D, h1, h2, h3⟩ := h.own
  exact ⟨hldZ_below h.src hb, h.pk.under hb, h.far, h.hb, h.hw, h.low, Nat.le_trans h.hs hb.size, D, h1, own_below15 h2 hb, h3⟩
theorem ArS.take (h : ArS w1 b ra rn rc a1 n1 c1 lp base k x u) (hs : SrcAt v b ra rn rc) (ha : Apart b u v) : ArS w1 b ra rn rc a1 n1 c1 lp base k x v := by
  obtain ⟨D, h1, h2, h3⟩ := h.own
  exact ⟨h.src.call hs ha, pkR_apartZ h.pk ha h.far, h.far, h.hb, h.hw, h.low, Nat.le_trans h.hs ha.size, D, h1, own_apart15 h2 ha (Nat.lt_of_lt_of_le h.hb h.hw), h3⟩
end

set_option maxRecDepth 100000 in
set_option maxHeartbeats 6400000 in
theorem packetArrives_walk (W : World) (a : Option Addr) (n cap : Nat) (hrow : RowAt W a n cap) (y : Int) (hy : In64 y) :
    Calls Try.prog 10 #[.slice a n cap, .int .i64 y] W fun e w' => e = .returned (.bool true) ∧ Below W.heap.size W w' := by
  obtain ⟨j0, hj, hy0, hy1, hy2⟩ := info_parts info_int
  have HR := Lib.hid hrow
  have HY := Lib.hid hy
  clear hrow hy
  go_enter Try.func10, Try.ntmps10
  go_wp2_with fail
  refine (new_any a n cap _ HR.out).mono ?_
  rintro e ww1 ⟨rfl, hb1, hz1', ra, rn, rc, hs1⟩
  have HB1 := Lib.hid hb1
  have HS1 := Lib.hid hs1
  have hbl : W.heap.size < ww1.heap.size := by omega
  clear hb1 hz1' hs1
  go_wp2_with fail
  refine (traffic14 12 (by omega) 3 20 (by decide) (by decide) _ ra rn rc _ HS1.out).mono ?_
  rintro e ww2 ⟨lp, a1, n1, c1, rfl, hdr, hs2, he2, hr2, hx2⟩
  have HD := Lib.hid hdr
  have hsz2 := he2.size
  have HA0 := Lib.hid (show ArS ww1 W.heap.size ra rn rc a1 n1 c1 lp ww2.heap.size 0 (.slice none 0 0) ww2 from
    ⟨(Hld13.start HS1.out).call hs2 he2, hr2, fun x hx => by have := hx2 x hx; omega, hbl, hsz2, pkR_lt hr2, Nat.le_refl _, [], rfl, World.ownsRow_nil _ _ _ _, fun i hi => absurd hi (Nat.not_lt_zero _)⟩)
  have HVC := Lib.hid (HD.out.vcode (by omega) (by omega) (by omega))
  have HLEN := Lib.hid hr2.len
  have hn12 : n1 ≤ 12 := by rw [← hr2.len]; exact HD.out.len
  have HT := Lib.hid (show ∀ i, i < n1 → 0 ≤ (lp.getD i default).t ∧ (lp.getD i default).t ≤ 84 ∧ 1 ≤ (lp.getD i default).s ∧ (lp.getD i default).s ≤ 20 from fun i hi => by
    have := HD.out.ok (lp.getD i default) (by rw [List.getD_eq_getElem?_getD, List.getElem?_eq_getElem (by rw [HLEN.out]; exact hi)]; exact List.getElem_mem _)
    omega)
  clear hdr hs2 he2 hr2 hx2
  go_wp2_with fail
  go_loopw [24, 7] (fun s24 s7 wx => ∃ k : Nat, s24 = .int .i64 k ∧ k ≤ n1 ∧ Hid (ArS ww1 W.heap.size ra rn rc a1 n1 c1 lp ww2.heap.size k s7 wx)) (fun s24 _ _ => n1 - (intOf s24).toNat)
  case atStart => exact ⟨0, by go_num, Nat.zero_le _, HA0⟩
  case round =>
    obtain ⟨k, rfl, hk, HA⟩ := hrel
    obtain ⟨wk, rfl⟩ : ∃ u : World, u = wr := ⟨_, rfl⟩
    obtain ⟨s7, rfl⟩ : ∃ u : Value, u = u7 := ⟨_, rfl⟩
    by_cases hlt : k < n1
    · have hlI : (k : Int) < (n1 : Int) := by omega
      obtain ⟨B, off, q, ha, hcs, hq, hbd⟩ := HA.out.pk.at hlt
      obtain ⟨d0, d1, d2⟩ := hcs k q hq
      have hqd : lp.getD k default = q := by rw [List.getD_eq_getElem?_getD, hq]; rfl
      have htk := HT.out k hlt
      rw [hqd] at htk
      obtain ⟨t0, t1, _, _⟩ := htk
      have HQ := Lib.hid hqd
      have HAA := Lib.hid ha
      clear hcs hq hbd hqd
      rw [ha]
      clear ha
      go_upto_region 7 with fail
      obtain ⟨u, hu⟩ : ∃ u : World, wk.alloc (.cells #[.int .i64 q.f, .int .i64 q.t, .int .i64 q.s] 94) = u := ⟨_, rfl⟩
      obtain ⟨hb, e0, e1, e2⟩ := box_pk hu
      have A0 := Lib.hid ((HA.out.call hb).call (Below.refl _ _).drew)
      have hbx : ¬ wk.heap.size = W.heap.size := by have := HA.out.hs; omega
      have hul : wk.heap.size < u.heap.size := lt_of_cell e1
      have E1 := Lib.hid (show ∀ v, Apart W.heap.size u v → v.cell? ⟨wk.heap.size, 1, none⟩ = some (.int .i64 q.t) from fun v hv => (World.cell?_of_block (w := u) (a := ⟨wk.heap.size, 1, none⟩) (hv.block _ hul hbx)).trans e1)
      rw [hu]
      clear hu hb d0 d1 d2 e0 e1 e2
      refine wp_region_keeps (fun u => u.cell? ⟨wk.heap.size, 1, none⟩ = some (.int .i64 q.t)) 12 2 (by kernel_rfl) (by kernel_rfl) (E1.out _ (below_apart (Below.refl _ _).drew)) (fun hHeld0 => ?_)
      refine wpAnyK_take (i := 0) (v := ?_) rfl (by kernel_rfl) (fun _ _ _ h => h) (Or.inl ⟨by rfl, ?_⟩) (by assumption) ?_
      rotate_left
      · (intro w hSw; (try dsimp only at hSw); go_simp; try with_reducible rfl)
      try simp only [Act.put, List.getElem_toArray, List.getElem_cons_zero, List.getElem_cons_succ, List.setIfInBounds_toArray, List.set_cons_zero, List.set_cons_succ]
      refine wpAnyK_take (i := 1) (v := ?_) rfl (by kernel_rfl) (fun _ _ _ h => h) (Or.inl ⟨by rfl, ?_⟩) (by assumption) ?_
      rotate_left
      · (intro w hSw; (try dsimp only at hSw); go_simp; try with_reducible rfl)
      try simp only [Act.put, List.getElem_toArray, List.getElem_cons_zero, List.getElem_cons_succ, List.setIfInBounds_toArray, List.set_cons_zero, List.set_cons_succ]
      refine wpAnyK_take (i := 2) (v := ?_) rfl (by kernel_rfl) (fun _ _ _ h => h) (Or.inl ⟨by rfl, ?_⟩) (by assumption) ?_
      rotate_left
      · (intro w hSw; (try dsimp only at hSw); go_simp; try with_reducible rfl)
      try simp only [Act.put, List.getElem_toArray, List.getElem_cons_zero, List.getElem_cons_succ, List.setIfInBounds_toArray, List.set_cons_zero, List.set_cons_succ]
      refine wpAnyK_take (i := 3) (v := ?_) rfl (by kernel_rfl) (fun _ _ _ h => h) (Or.inl ⟨by rfl, ?_⟩) (by assumption) ?_
      rotate_left
      · (intro w hSw; (try dsimp only at hSw); go_simp; try with_reducible rfl)
      try simp only [Act.put, List.getElem_toArray, List.getElem_cons_zero, List.getElem_cons_succ, List.setIfInBounds_toArray, List.set_cons_zero, List.set_cons_succ]
      refine wpAnyK_take (i := 4) (v := ?_) rfl (by kernel_rfl) (fun _ _ _ h => h) (Or.inl ⟨by rfl, ?_⟩) (by assumption) ?_
      rotate_left
      · (intro w hSw; (try dsimp only at hSw); go_simp; try with_reducible rfl)
      try simp only [Act.put, List.getElem_toArray, List.getElem_cons_zero, List.getElem_cons_succ, List.setIfInBounds_toArray, List.set_cons_zero, List.set_cons_succ]
      refine wpAnyK_take (i := 5) (v := ?_) rfl (by kernel_rfl) (fun _ _ _ h => h) (Or.inl ⟨by rfl, ?_⟩) (by assumption) ?_
      rotate_left
      · (intro w hSw; (try dsimp only at hSw); go_simp; try with_reducible rfl)
      try simp only [Act.put, List.getElem_toArray, List.getElem_cons_zero, List.getElem_cons_succ, List.setIfInBounds_toArray, List.set_cons_zero, List.set_cons_succ]
      refine wpAnyK_take (i := 6) (v := ?_) rfl (by kernel_rfl) (fun _ _ _ h => h) (Or.inl ⟨by rfl, ?_⟩) (by assumption) ?_
      rotate_left
      · (intro w hSw; (try dsimp only at hSw); go_simp; try with_reducible rfl)
      try simp only [Act.put, List.getElem_toArray, List.getElem_cons_zero, List.getElem_cons_succ, List.setIfInBounds_toArray, List.set_cons_zero, List.set_cons_succ]
      refine wpAnyK_step (i := 7) rfl (by kernel_rfl) (fun K hK => ?_)
      go_simp
      with_reducible refine (n_any 9 (by omega) (by omega) _ ra rn rc _ (A0.out.src.at HS1.out)).mono ?_
      rintro e u1 ⟨z, ⟨z0, z1⟩, rfl, hs, he⟩
      have A1 := Lib.hid (A0.out.take hs he.apart)
      have P1 := Lib.hid ((below_apart (Below.refl _ _).drew).trans he.apart)
      have hwz : IntKind.i64.wrap (q.t + z) = q.t + z := IntWalk.i64_in _ ⟨by omega, by omega⟩
      clear hs he
      refine hK.out _ _ (E1.out _ P1.out) (fun hHeld1 => ?_)
      clear hK K hHeld0
      try simp only [Act.put, List.getElem_toArray, List.getElem_cons_zero, List.getElem_cons_succ, List.setIfInBounds_toArray, List.set_cons_zero, List.set_cons_succ]
      refine wpAnyK_take (i := 8) (v := ?_) rfl (by kernel_rfl) (fun _ _ _ h => h) (Or.inl ⟨by rfl, ?_⟩) (by assumption) ?_
      rotate_left
      · (intro w hSw; (try dsimp only at hSw); go_simp; try with_reducible rfl)
      try simp only [Act.put, List.getElem_toArray, List.getElem_cons_zero, List.getElem_cons_succ, List.setIfInBounds_toArray, List.set_cons_zero, List.set_cons_succ]
      obtain ⟨w1', hw1'⟩ : ∃ v : World, v = u1 := ⟨_, rfl⟩
      refine wpAnyK_step (i := 9) rfl (by kernel_rfl) (fun K hK => ?_)
      go_simp
      refine hK.out _ _ (E1.out _ (P1.out.trans (below_apart ((Below.refl _ _).alloc (Nat.le_refl _) (.cells #[.int .i64 q.t, .int .i64 (q.t + z), .int .i64 (-1)] 3))))) (fun hHeld2 => ?_)
      clear hK K hHeld1
      try simp only [Act.put, List.getElem_toArray, List.getElem_cons_zero, List.getElem_cons_succ, List.setIfInBounds_toArray, List.set_cons_zero, List.set_cons_succ]
      have A2 := Lib.hid (A1.out.call ((Below.refl _ _).alloc (Nat.le_refl _) (.cells #[.int .i64 q.t, .int .i64 (q.t + z), .int .i64 (-1)] 3)))
      have P2 := Lib.hid (P1.out.trans (below_apart ((Below.refl _ _).alloc (Nat.le_refl _) (.cells #[.int .i64 q.t, .int .i64 (q.t + z), .int .i64 (-1)] 3))))
      have hne1 : ¬ u1.heap.size = W.heap.size := by have := A1.out.hs; omega
      have HPK := Lib.hid (pick_of (fun v => v = -1 ∨ q.t ≤ v ∧ v ≤ q.t + 8) (fun v hv => ⟨by omega, by omega⟩) u1.heap.size 3 3 (by omega) (by omega) W.heap.size hne1 ra rn rc _ (A2.out.src.at HS1.out) (fun i hi => by
        have : i = 0 ∨ i = 1 ∨ i = 2 := by omega
        rcases this with rfl | rfl | rfl
        · exact ⟨_, cell_new13 rfl, .inr ⟨by omega, by omega⟩⟩
        · exact ⟨_, cell_new13 rfl, .inr ⟨by omega, by omega⟩⟩
        · exact ⟨_, cell_new13 rfl, .inl rfl⟩))
      refine wpAnyK_step (i := 10) rfl (by kernel_rfl) (fun K hK => ?_)
      go_simp
      with_reducible refine (HPK.out).mono ?_
      rintro e u3 ⟨x, hx, rfl, hs, he⟩
      have A3 := Lib.hid (A2.out.take hs he)
      have P3 := Lib.hid (P2.out.trans he)
      have HXV := Lib.hid hx
      clear hs he hx
      refine hK.out _ _ (E1.out _ P3.out) (fun hHeld3 => ?_)
      clear hK K hHeld2
      try simp only [Act.put, List.getElem_toArray, List.getElem_cons_zero, List.getElem_cons_succ, List.setIfInBounds_toArray, List.set_cons_zero, List.set_cons_succ]
      refine wpAnyK_step (i := 11) rfl (by kernel_rfl) (fun K hK => ?_)
      go_simp
      refine hK.out _ _ (E1.out _ (P3.out.trans (below_apart ((Below.refl _ _).alloc (Nat.le_refl _) (.cells #[.int .i64 x] 3))))) (fun hHeld4 => ?_)
      clear hK K hHeld3
      try simp only [Act.put, List.getElem_toArray, List.getElem_cons_zero, List.getElem_cons_succ, List.setIfInBounds_toArray, List.set_cons_zero, List.set_cons_succ]
      refine wpAnyK_done (by kernel_rfl) ?_
      simp only [List.drop_succ_cons, List.drop_zero]
      clear hHeld4
      obtain ⟨D, hDl, hDo, hDb⟩ := A3.out.own
      have HDD := Lib.hid (And.intro hDl (And.intro hDo hDb))
      clear hDl hDo hDb
      go_wp2_with (at_builtin; refine wpList_append_own _ rfl _ _ 22 rfl ww2.heap.size 3 j0 (.int .i64 0) 1 8 Try.underlying22 hj hy0 hy1 hy2 rfl (by decide) s7 k (D.map (Value.int .i64)) rfl (HDD.out.2.1.alloc _) ⟨u3.heap.size, 0, none⟩ 1 1 [.int .i64 x] rfl rfl ?k1 ?k2 (by unfold maxLen; omega) (by omega) (by have := A3.out.hs; simp; omega) ?_)
      case k1 =>
        intro j u hj
        have hj1 : j < 1 := (List.getElem?_eq_some_iff.1 hj).1
        obtain rfl : j = 0 := by omega
        cases hj
        rw [show ((⟨u3.heap.size, 0, none⟩ : Addr).add 0) = ⟨u3.heap.size, 0, none⟩ from rfl]
        exact cell_new13 rfl
      case k2 => intro u hu; rw [List.mem_singleton.1 hu]; rfl
      intro v' w7 ho' hg' _
      have hrow : ∀ j, s7.ownBlock = some j → ww2.heap.size ≤ j := fun j hj => (HDD.out.2.1.lt j hj).1
      have hbw : Below ww2.heap.size u3 w7 := ((Below.refl ww2.heap.size u3).alloc A3.out.hs _).trans (grownBy_below hg' hrow (by have := A3.out.hs; simp; omega))
      have HN := Lib.hid (show ArS ww1 W.heap.size ra rn rc a1 n1 c1 lp ww2.heap.size (k + 1) v' w7 from by
        have hA := A3.out
        refine ⟨(hA.src.alloc _).grown hA.hb hg' (fun j hj => Nat.le_trans hA.hw (hrow j hj)), pkR_block hA.pk (fun z hz h1 => hbw.block _ (hA.low z hz h1)), hA.far, hA.hb, hA.hw, hA.low, Nat.le_trans hA.hs hbw.size, D ++ [x], by simp [HDD.out.1], by rw [List.map_append]; exact ho', fun i hi => ?_⟩
        by_cases e : i = k
        · subst e
          rw [show (D ++ [x]).getD i 0 = x from by rw [List.getD_eq_getElem?_getD, List.getElem?_append_right (by rw [HDD.out.1]; exact Nat.le_refl _), HDD.out.1]; simp, HQ.out]
          exact HXV.out
        · rw [show (D ++ [x]).getD i 0 = D.getD i 0 from by rw [List.getD_eq_getElem?_getD, List.getElem?_append_left (by rw [HDD.out.1]; omega), ← List.getD_eq_getElem?_getD]]
          exact HDD.out.2.2 i (by omega))
      clear ho' hg' hrow hbw
      go_wp2_with fail
      go_roundw
      case rel => exact ⟨k + 1, by go_num, by omega, Lib.hid (by first | exact HN.out | (rw [← HAA.out]; exact HN.out))⟩
      case measure => first | (simp [intOf]; done) | (simp [intOf]; omega)
    · obtain rfl : k = n1 := by omega
      have hlI : ¬ (k : Int) < (k : Int) := by omega
      obtain ⟨D, hDl, hDo, hDb⟩ := HA.out.own
      have HDB := Lib.hid (show ∀ i, i < k → D.getD i 0 = -1 ∨ (lp.getD i default).t ≤ D.getD i 0 ∧ 0 ≤ D.getD i 0 ∧ D.getD i 0 ≤ 92 from fun i hi => by
        have := HT.out i hi
        rcases hDb i hi with h | h <;> omega)
      obtain ⟨ad, cd, hs7, hzD, hxD⟩ := rowZ_of_owns hDo (by omega) (fun i hi => by
        have := HDB.out i (by omega)
        exact ⟨by omega, by omega⟩)
      subst hs7
      have hcode : dcode lp D = 0 := dcode_zero HVC.out (by rw [hDl, HLEN.out]) (fun i hi => by have := HDB.out i (by rw [HLEN.out] at hi; exact hi); omega)
      have HC := Lib.hid hcode
      have hF := forward15 a1 k c1 lp ad k cd D _ HA.out.pk hzD
      rw [hcode] at hF
      have HF := Lib.hid hF
      have HZD := Lib.hid hzD
      have HPK := Lib.hid HA.out.pk
      have HSR := Lib.hid HA.out.src
      clear hDl hDo hDb hzD hxD hcode hF HA
      go_wp2_with fail
      refine HF.out.mono ?_
      rintro e w3 ⟨b1, m1, e1, b2, m2, e2, rfl, hb3, hp3, hz3, _, _⟩
      obtain ⟨S, hS⟩ : ∃ S, isort_a (arrL lp D lp.length) = S := ⟨_, rfl⟩
      have hFP : fwdP lp D = S.map Pk_a.pk := by unfold fwdP; rw [if_pos HC.out, hS]
      have hFX : fwdX lp D = S.map Pk_a.i := by unfold fwdX; rw [if_pos HC.out, hS]
      have hl1 := hp3.len
      have hl2 := hz3.len
      rw [hFP, List.length_map] at hl1
      rw [hFX, List.length_map] at hl2
      obtain rfl : m2 = m1 := by omega
      have HSL := Lib.hid hl1
      have hSk : S.length ≤ k := by rw [← hS, isort_length_a, HLEN.out]; exact arrL_len lp D k
      have HFV := Lib.hid (fwd_valid HC.out)
      have HFB := Lib.hid (fun t => fwd_byt (t := t) HC.out)
      have HMEM := Lib.hid (show ∀ x ∈ S, ∃ i q, lp[i]? = some q ∧ D.getD i 0 ≠ -1 ∧ q.t ≤ D.getD i 0 ∧ D.getD i 0 ≤ 1999 ∧ x = ⟨q.f, D.getD i 0 + 1, q.s, i⟩ ∧ okP q = true from fun x hx => arr_mem HC.out (by rw [hS]; exact hx))
      rw [hFP] at HFV hp3 HFB
      rw [hFX] at hz3
      have HP3 := Lib.hid hp3
      have HZ3 := Lib.hid hz3
      have HB3 := Lib.hid hb3
      have HSR3 := Lib.hid (hldZ_below HSR.out hb3)
      have hm60 : m2 ≤ 12 := by omega
      clear hFP hFX hl1 hl2 hS hSk hb3 hp3 hz3 HF HSR
      go_wp2_with fail
      refine (validate_any b1 m2 e1 _ 0 HFV.out _ HP3.out).mono ?_
      rintro e w4 ⟨rfl, hb4⟩
      have HP4 := Lib.hid (HP3.out.under hb4)
      have HZ4 := Lib.hid (HZ3.out.under hb4)
      have HPK4 := Lib.hid ((HPK.out.under HB3.out).under hb4)
      have HZD4 := Lib.hid ((HZD.out.under HB3.out).under hb4)
      have HSR4 := Lib.hid (hldZ_below HSR3.out hb4)
      clear hb4 HP3 HZ3 HPK HZD HSR3 HB3
      go_wp2_with fail
      refine (mod_any y 120 HY.out (by omega) (by omega) _).mono ?_
      rintro e w4' ⟨rfl, rfl⟩
      obtain ⟨nn, hnn⟩ : ∃ m, y % 120 = m := ⟨_, rfl⟩
      rw [hnn]
      have hnn0 : 0 ≤ nn ∧ nn < 120 := by omega
      obtain ⟨nn0, nn1⟩ := hnn0
      clear hnn
      go_wp2_with fail
      go_loopw [67, 14] (fun s67 s14 wx => ∃ (j : Nat) (s : Int), s67 = .int .i64 j ∧ s14 = .int .i64 s ∧ j ≤ k ∧ 0 ≤ s ∧ s ≤ 20 * (j : Int) ∧ Hid (s = sumI (fun i => if 0 ≤ D.getD i 0 ∧ D.getD i 0 + 1 < nn then szI lp i else 0) j) ∧ Hid (Below w4.heap.size w4 wx)) (fun s67 _ _ => k - (intOf s67).toNat)
      case atStart => exact ⟨0, 0, by go_num, rfl, Nat.zero_le _, by omega, by omega, rfl, Below.refl _ _⟩
      case round =>
        obtain ⟨j, s, rfl, rfl, hj, hs0, hs1, HM, HW⟩ := hrel
        obtain ⟨wj, rfl⟩ : ∃ u : World, u = wr := ⟨_, rfl⟩
        by_cases hlj : j < k
        · have hljI : (j : Int) < (k : Int) := by omega
          obtain ⟨B, off, q, ha, hcs, hq, hbd⟩ := (HPK4.out.under HW.out).at hlj
          obtain ⟨yd, x, hyd, hcy, hx, hxd, hx64⟩ := row_get (HZD4.out.under HW.out) hlj
          obtain ⟨d0, d1, d2⟩ := hcs j q hq
          have hqd : lp.getD j default = q := by rw [List.getD_eq_getElem?_getD, hq]; rfl
          have htj := HT.out j hlj
          rw [hqd] at htj
          obtain ⟨_, _, t2, t3⟩ := htj
          have hxb := HDB.out j hlj
          rw [hxd] at hxb
          have hxb2 : -1 ≤ x ∧ x ≤ 92 := by omega
          obtain ⟨x0, x1⟩ := hxb2
          have HNX := Lib.hid (show sumI (fun i => if 0 ≤ D.getD i 0 ∧ D.getD i 0 + 1 < nn then szI lp i else 0) (j + 1) = s + if 0 ≤ x ∧ x + 1 < nn then q.s else 0 from by
            rw [sumI_succ, ← HM.out]; unfold szI; rw [hxd, hqd])
          have HAA := Lib.hid (And.intro ha hyd)
          have hwx : IntKind.i64.wrap (x + 1) = x + 1 := IntWalk.i64_in _ ⟨by omega, by omega⟩
          have hws : IntKind.i64.wrap (s + q.s) = s + q.s := IntWalk.i64_in _ ⟨by omega, by omega⟩
          clear hcs hq hbd hqd hxb hxd hx hx64 d0 d1
          rw [ha, hyd]
          clear ha hyd
          by_cases h1 : 0 ≤ x
          · by_cases h2 : x + 1 < nn
            · have HN := Lib.hid (show s + q.s = sumI (fun i => if 0 ≤ D.getD i 0 ∧ D.getD i 0 + 1 < nn then szI lp i else 0) (j + 1) from by rw [HNX.out, if_pos ⟨h1, h2⟩])
              go_wp2_with fail
              go_roundw
              case rel => exact ⟨j + 1, s + q.s, by go_num, rfl, by omega, by omega, by omega, HN, HW⟩
              case measure => first | (simp [intOf]; done) | (simp [intOf]; omega)
            · have HN := Lib.hid (show s = sumI (fun i => if 0 ≤ D.getD i 0 ∧ D.getD i 0 + 1 < nn then szI lp i else 0) (j + 1) from by rw [HNX.out, if_neg (fun h => h2 h.2)]; omega)
              go_wp2_with fail
              go_roundw
              case rel => exact ⟨j + 1, s, by go_num, rfl, by omega, by omega, by omega, HN, HW⟩
              case measure => first | (simp [intOf]; done) | (simp [intOf]; omega)
          · have HN := Lib.hid (show s = sumI (fun i => if 0 ≤ D.getD i 0 ∧ D.getD i 0 + 1 < nn then szI lp i else 0) (j + 1) from by rw [HNX.out, if_neg (fun h => h1 h.1)]; omega)
            go_wp2_with fail
            go_roundw
            case rel => exact ⟨j + 1, s, by go_num, rfl, by omega, by omega, by omega, HN, HW⟩
            case measure => first | (simp [intOf]; done) | (simp [intOf]; omega)
        · obtain rfl : j = k := by omega
          have hljI : ¬ (j : Int) < (j : Int) := by omega
          have HSUM := Lib.hid (show bytW nn (sel (-1) (S.map Pk_a.pk)) = s from by rw [HFB.out, HM.out, HLEN.out])
          have HP5 := Lib.hid (HP4.out.under HW.out)
          have HZ5 := Lib.hid (HZ4.out.under HW.out)
          have HPK5 := Lib.hid (HPK4.out.under HW.out)
          have HZD5 := Lib.hid (HZD4.out.under HW.out)
          have HSR5 := Lib.hid (hldZ_below HSR4.out HW.out)
          clear HM HP4 HZ4 HPK4 HZD4 HSR4 HW
          go_wp2_with fail
          go_loopw [94] (fun s94 wx => ∃ i : Nat, s94 = .int .i64 i ∧ i ≤ m2 ∧ Hid (Below wj.heap.size wj wx)) (fun s94 _ => m2 - (intOf s94).toNat)
          case atStart => exact ⟨0, by go_num, Nat.zero_le _, Below.refl _ _⟩
          case round =>
            obtain ⟨i, rfl, hi, HW⟩ := hrel
            obtain ⟨wi, rfl⟩ : ∃ u : World, u = wr := ⟨_, rfl⟩
            by_cases hli : i < m2
            · have hliI : (i : Int) < (m2 : Int) := by omega
              obtain ⟨sx, hsx⟩ : ∃ sx, S[i]? = some sx := ⟨_, List.getElem?_eq_getElem (by rw [HSL.out]; exact hli)⟩
              obtain ⟨ii, q, hq, hd1, hd2, hd3, hsxe, hok⟩ := HMEM.out sx (List.mem_of_getElem? hsx)
              have hil : ii < j := by have := (List.getElem?_eq_some_iff.1 hq).1; rw [HLEN.out] at this; exact this
              have hiI : (ii : Int) < (j : Int) := by omega
              obtain ⟨Bp, op, qp, hap, hcp, hqp, _⟩ := (HP5.out.under HW.out).at hli
              have hqpe : qp = ⟨q.f, D.getD ii 0 + 1, q.s⟩ := by
                rw [List.getElem?_map, hsx] at hqp
                have h5 := Option.some.inj hqp
                rw [← h5, hsxe]; rfl
              obtain ⟨p0, p1, p2⟩ := hcp i qp hqp
              rw [hqpe] at p0 p1 p2
              dsimp only at p0 p1 p2
              obtain ⟨yx, zx, hyx, hcx, hzx, hzxd, _⟩ := row_get (HZ5.out.under HW.out) hli
              have hzxe : zx = (ii : Int) := by
                rw [List.getElem?_map, hsx] at hzx
                have h5 := Option.some.inj hzx
                rw [← h5, hsxe]
              subst hzxe
              obtain ⟨B, off, q', ha, hcs, hq', _⟩ := (HPK5.out.under HW.out).at hil
              obtain rfl : q' = q := by rw [hq] at hq'; exact (Option.some.inj hq').symm
              obtain ⟨d0, d1, d2⟩ := hcs ii q' hq'
              obtain ⟨yd, x, hyd, hcy, hx, hxd, _⟩ := row_get (HZD5.out.under HW.out) hil
              rw [hxd] at hd1 hd2 hd3 p1
              have hok2 := (okP_iff q').1 hok
              have hwx : IntKind.i64.wrap (x + 1) = x + 1 := IntWalk.i64_in _ ⟨by omega, by omega⟩
              have hne := neq_pk ⟨q'.f, x + 1, q'.s⟩ ⟨q'.f, x + 1, q'.s⟩ true (by unfold pkB; simp)
              dsimp only at hne
              have hgd : ∀ (op : BinOp) (a b : Operand) (w : World), Sem.run Try.prog (eqGuard op 94 a b (.agg #[.int .i64 q'.f, .int .i64 (x + 1), .int .i64 q'.s]) (.agg #[.int .i64 q'.f, .int .i64 (x + 1), .int .i64 q'.s])) w = .ok () w := fun op a b w => guard_pk op a b _ _ w
              have hii0 : ¬ (ii : Int) < 0 := by omega
              have hiij : ¬ (j : Int) ≤ (ii : Int) := by omega
              have HAP := Lib.hid (And.intro hap (And.intro hyx (And.intro ha hyd)))
              clear hcp hqp hqpe hzx hzxd hcs hq hq' hx hxd hd1 hd2 hd3 hsxe hok hok2 d1 hsx
              rw [hap, hyx, ha, hyd]
              clear hap hyx ha hyd
              go_wp2_with fail
              go_quiet (fail)
              go_wp2_with fail
              go_roundw
              case rel => exact ⟨i + 1, by go_num, by omega, HW.out.drewN _⟩
              case measure => first | (simp [intOf]; done) | (simp [intOf]; omega)
            · obtain rfl : i = m2 := by omega
              have hliI : ¬ (i : Int) < (i : Int) := by omega
              go_wp2_with fail
              refine (bytes13 b1 i e1 (S.map Pk_a.pk) (-1) nn s HSUM.out _ (HP5.out.under HW.out)).mono ?_
              rintro e w6 ⟨rfl, hb6⟩
              have HB6 := Lib.hid (hldZ_below (hldZ_below HSR5.out HW.out) hb6)
              clear hb6
              go_wp2_with fail
              refine (awake15 _).mono ?_
              rintro e w7 ⟨rfl, hb7⟩
              have HB7 := Lib.hid (hldZ_below HB6.out hb7)
              clear hb7
              go_wp2_with fail
              go_ret
              exact ⟨rfl, HB1.out.trans (HB7.out.ap.below (Nat.le_refl _) HB1.out.size)⟩
end Go.Proofs.Ythljhddnfflpjaa
