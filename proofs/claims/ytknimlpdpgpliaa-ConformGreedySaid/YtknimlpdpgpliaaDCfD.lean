/- The numbers of a list from the last to the first: slices.Backward; slices.Delete at packets; a copy of one's own. By the verifier's side. -/
import Derived.Test.YtknimlpdpgpliaaDCfS
import Derived.Test.YtknimlpdpgpliaaDCfMCfN
import Derived.Test.YtknimlpdpgpliaaDRegL
namespace Go.Proofs.Ytknimlpdpgpliaa
open Go.RowKit Go.Shelf
set_option linter.unusedSimpArgs false
set_option linter.unusedVariables false
attribute [local go_sem] Oper.semAt_some

/-- Every block below n but two is as it was. -/
structure BB2 (n c d : Nat) (A B : World) : Prop where
  size : A.heap.size ≤ B.heap.size
  block : ∀ k, k < n → k ≠ c → k ≠ d → B.heap[k]? = A.heap[k]?
theorem BB2.refl (n c d : Nat) (A : World) : BB2 n c d A A := ⟨Nat.le_refl _, fun _ _ _ _ => rfl⟩
theorem bb2_t {n c d : Nat} {A B C : World} (h : BB2 n c d A B) (k : BB2 n c d B C) : BB2 n c d A C := ⟨Nat.le_trans h.size k.size, fun j h1 h2 h3 => (k.block j h1 h2 h3).trans (h.block j h1 h2 h3)⟩
theorem bb2_b {n c d : Nat} {w : World} (hn : n ≤ w.heap.size) (W : World) (l : Nat) (o o' : Obj) (hl : w.heap.size ≤ l) (h : W.heap[l]? = some o) (h1 : o.isCells = false) (h2 : o.isWalk = false) : BB2 n c d W (W.putObj l o') :=
  ⟨by simp [World.putObj], fun k hk _ _ => World.putObj_heap_other (by omega)⟩
theorem BB2.cell {n c d : Nat} {A B : World} (h : BB2 n c d A B) {p : Addr} (h1 : p.block < n) (h2 : p.block ≠ c) (h3 : p.block ≠ d) : B.cell? p = A.cell? p := World.cell?_of_block (w := A) (h.block _ h1 h2 h3)

set_option maxHeartbeats 400000 in
theorem backwardI_in (F : Fence) (n : Nat) (hF : F.fn 105) (hro : F.round = none) (a : Option Addr) (len cap : Nat) (w : World) :
    CallsIn F n Try.prog 105 #[.slice a len cap] w fun e w' => e = .returned (.func (.func 154) #[] #[.pointer (some ⟨w.heap.size, 0, none⟩)]) ∧ w' = w.alloc (.cells #[.slice a len cap] 22) := by
  refine callsIn_of_wp Try.func105 rfl hF ?_ hro
  simp only [Try.ntmps105, List.size_toArray, List.length_cons, List.length_nil, Nat.reduceAdd, Nat.reduceSub, Array.replicate_succ, Array.replicate_zero, List.push_toArray, List.append_toArray, List.nil_append, List.cons_append]
  gi_wp2
  go_ret
  exact ⟨rfl, rfl⟩

set_option maxHeartbeats 2000000 in
theorem backwardI_seq (F : Fence) (n : Nat) (hF : F.fn 154) (hro : F.round = none) (hn : 1 ≤ n) (Bs n0 c d : Nat) (a : Option Addr) (len cap : Nat) (zs : List Int) (w : World) (hn0 : n0 ≤ w.heap.size) (hs1 : Bs < n0) (hs2 : Bs ≠ c) (hs3 : Bs ≠ d)
    (hcs0 : w.cell? ⟨Bs, 0, none⟩ = some (.slice a len cap)) (hz : RowZ w a len cap zs) (hsm : len ≤ 1000000) (hR0 : ∀ x, a = some x → 1 ≤ len → x.block < n0 ∧ x.block ≠ c ∧ x.block ≠ d) :
    SeqOf F n Try.prog 154 #[.pointer (some ⟨Bs, 0, none⟩)] (fun x : Int × Int => #[.int .i64 x.1, .int .i64 x.2]) (BB2 n0 c d) (bkI zs) w := fun l J W hW hJ hY h0 => by
  have hcs : W.cell? ⟨Bs, 0, none⟩ = some (.slice a len cap) := (hW.cell (p := ⟨Bs, 0, none⟩) (by show Bs < _; omega)).trans hcs0
  have HR := Lib.hid (And.intro (hz.under hW) hR0)
  have HN := Lib.hid (And.intro hs1 (And.intro hs2 hs3))
  have HY := Lib.hid hY
  have HL := Lib.hid hz.len
  clear hz hR0 hs1 hs2 hs3 hY hcs0 hW hn0
  refine callsIn_of_wp Try.func154 rfl hF ?_ hro
  simp only [Try.ntmps154, List.size_toArray, List.length_cons, List.length_nil, Nat.reduceAdd, Nat.reduceSub, Array.replicate_succ, Array.replicate_zero, List.push_toArray, List.append_toArray, List.nil_append, List.cons_append]
  gi_wp2
  gi_loopw [3] (fun i wr => ∃ m : Nat, m ≤ len ∧ i = .int .i64 ((m : Int) - 1) ∧ Hid (J (len - m) wr) ∧ Hid (BB2 n0 c d W wr)) (fun i _ => (intOf i + 1).toNat)
  case atStart => exact ⟨len, Nat.le_refl _, rfl, Lib.hid (by rw [Nat.sub_self]; exact h0), BB2.refl _ _ _ _⟩
  case round =>
    obtain ⟨m, hm, rfl, hJs, HW⟩ := hrel
    obtain ⟨wk, rfl⟩ : ∃ u : World, u = wr := ⟨_, rfl⟩
    have cs : wk.cell? ⟨Bs, 0, none⟩ = some (.slice a len cap) := (HW.out.cell HN.out.1 HN.out.2.1 HN.out.2.2).trans hcs
    cases m with
    | zero =>
      rw [show ((0 : Nat) : Int) - 1 = -1 from rfl]
      gi_wp2
      go_end0
      refine ⟨⟨_, rfl⟩, ?_⟩
      have := hJs.out
      rw [bkI_len, HL.out]; exact this
    | succ m =>
      rw [show ((m + 1 : Nat) : Int) - 1 = (m : Int) by omega]
      have hlt : m < len := by omega
      have hlI : (m : Int) < (len : Int) := by omega
      obtain ⟨x, ha, hc⟩ := HR.out.1.cell m hlt
      obtain ⟨hB1, hB2, hB3⟩ := HR.out.2 x ha (by omega)
      have hbl : (x.add m).block = x.block := by unfold Addr.add; split <;> rfl
      have hck : wk.cell? (x.add m) = some (.int .i64 (zs.getD m 0)) := (HW.out.cell (p := x.add m) (by rw [hbl]; exact hB1) (by rw [hbl]; exact hB2) (by rw [hbl]; exact hB3)).trans hc
      clear hbl
      subst ha
      have hat : (bkI zs)[len - (m + 1)]? = some ((m : Int), zs.getD m 0) := by
        rw [bkI_at (by rw [HL.out]; omega), HL.out, show len - 1 - (len - (m + 1)) = m by omega]
      obtain ⟨fn, tmps, assign, body, hy, hRd⟩ := HY.out (len - (m + 1)) ((m : Int), zs.getD m 0) wk hat hJs.out
      clear hc hB1 hB2 hB3 hat
      dsimp only at hy
      generalize zs.getD m 0 = z at hck hy hRd
      gi_wp2
      refine hRd.mono ?_
      rintro e W3 ⟨rfl, hJ3, hk3⟩
      have HK3 := Lib.hid (And.intro hJ3 hk3)
      clear hJ3 hk3
      gi_wp2
      go_roundw
      case rel => exact ⟨m, by omega, by go_num, Lib.hid (by rw [show len - m = len - (m + 1) + 1 by omega]; exact HK3.out.1), Lib.hid (bb2_t HW.out HK3.out.2)⟩
      case measure => first | (simp [intOf]; done) | (simp [intOf]; omega)

theorem take_of14 {cs xs : List Value} {m : Nat} (h : cs.take m = xs) {k : Nat} (hk : k ≤ m) : cs.take k = xs.take k := by
  rw [← h, List.take_take, Nat.min_eq_left hk]
theorem pkV_take : ∀ (l : List Pk) (i : Nat), (pkV l).take (i * 3) = pkV (l.take i)
  | [], i => by simp [pkV]
  | q :: r, 0 => rfl
  | q :: r, i + 1 => by
    rw [show (i + 1) * 3 = i * 3 + 1 + 1 + 1 by omega]
    show (Value.int .i64 q.f :: .int .i64 q.t :: .int .i64 q.s :: pkV r).take (i * 3 + 1 + 1 + 1) = _
    simp only [List.take_succ_cons]
    rw [pkV_take r i]; rfl
set_option maxHeartbeats 800000 in
/-- The append that closes a gap of one packet, in place. -/
theorem run_gap (bs : Nat) (ty : TypeId) (g n cap i : Nat) (l : List Pk) (hi : i < n) (w : World) (ho : w.ownsRow bs 76 3 (.slice (some ⟨g, 0, none⟩) n cap) n (pkV l)) (c ad : Nat) (had : i + 1 < n → ad = (i + 1) * 3) :
    ∃ w', (Builtin.append_ #[45, 45] ty #[.slice (some ⟨g, 0, none⟩) i cap, .slice (some ⟨g, ad, none⟩) (n - (i + 1)) c]).run Try.prog w = .ok (.slice (some ⟨g, 0, none⟩) (n - 1) cap) w' ∧
      w'.ownsRow bs 76 3 (.slice (some ⟨g, 0, none⟩) (n - 1) cap) (n - 1) (pkV (l.eraseIdx i)) ∧ Apart g w w' := by
  obtain ⟨i0, hi', hz0, hz1, hz2⟩ := info_parts info_pk
  obtain ⟨hl3, hcase⟩ := ho
  have hln : l.length = n := by rw [pkV_length] at hl3; omega
  rcases hcase with ⟨he, _⟩ | ⟨g', cap', cur, he, hbg, hg, hnc, hcm, hsz, htake⟩
  · cases he
  · cases he
    have hcell : ∀ o, w.cell? ⟨g, o, none⟩ = cur[o]? := fun o => by simp [World.cell?, hg]
    have hnews : ∀ j u, (pkV (l.drop (i + 1)))[j]? = some u → w.cell? ((⟨g, ad, none⟩ : Addr).add j) = some u := fun j u hj => by
      have hlt : i + 1 < n := by
        have := (List.getElem?_eq_some_iff.1 hj).1
        rw [pkV_length, List.length_drop, hln] at this; omega
      rw [had hlt]
      have ea : ((⟨g, (i + 1) * 3, none⟩ : Addr).add j) = ⟨g, (i + 1) * 3 + j, none⟩ := by unfold Addr.add; split <;> simp_all
      rw [ea, hcell]
      have hs : pkV l = pkV (l.take (i + 1)) ++ pkV (l.drop (i + 1)) := by rw [← pkV_append, List.take_append_drop]
      have h1 : (pkV l)[(i + 1) * 3 + j]? = some u := by
        rw [hs, List.getElem?_append_right (by rw [pkV_length, List.length_take]; omega), pkV_length, List.length_take, Nat.min_eq_left (by omega), Nat.add_sub_cancel_left]
        exact hj
      rw [← htake, List.getElem?_take] at h1
      split at h1
      · simpa using h1
      · cases h1
    have hr := run_append_room (P := Try.prog) w 45 ty 76 i0 Try.underlying45 hi' g i cap cur hg ⟨g, ad, none⟩ (n - (i + 1)) c (pkV (l.drop (i + 1))) (by rw [hz1, pkV_length, List.length_drop, hln]) hnews (pkV_one _) (by omega) (by rw [hz1, pkV_length, List.length_drop, hsz, hln]; omega)
    rw [show i + (n - (i + 1)) = n - 1 by omega, hz1] at hr
    have herase : l.eraseIdx i = l.take i ++ l.drop (i + 1) := List.eraseIdx_eq_take_drop_succ l i
    refine ⟨_, hr, ⟨by rw [pkV_length, List.length_eraseIdx_of_lt (by omega), hln], .inr ⟨g, cap, _, rfl, hbg, setRow_heap w g cur _ _ _ hg, by omega, hcm, ?_, ?_⟩⟩, ⟨rfl, rfl, rfl, by simp, fun k _ hk => setRow_other w g k _ hk⟩⟩
    · simp only [List.size_toArray, List.length_append, List.length_take, List.length_drop, Array.length_toList, pkV_length, hln]
      omega
    · have ht : cur.toList.take (i * 3) = pkV (l.take i) := by rw [take_of14 htake (by omega), pkV_take]
      rw [ht, herase, pkV_append]
      have : (pkV (l.take i) ++ pkV (l.drop (i + 1))).length = (n - 1) * 3 := by rw [List.length_append, pkV_length, pkV_length, List.length_take, List.length_drop, hln]; omega
      rw [← this]
      exact List.take_left
set_option maxHeartbeats 800000 in
/-- What is behind the end of a list may be cleared. -/
theorem run_clear14 (bs : Nat) (ty : TypeId) (g m cap c : Nat) (l : List Pk) (hm : m < cap) (w : World) (ho : w.ownsRow bs 76 3 (.slice (some ⟨g, 0, none⟩) m cap) m (pkV l)) :
    ∃ w', (Builtin.clear_ #[45] ty #[.slice (some ⟨g, m * 3, none⟩) 1 c]).run Try.prog w = .ok (.tuple #[]) w' ∧
      w'.ownsRow bs 76 3 (.slice (some ⟨g, 0, none⟩) m cap) m (pkV l) ∧ Apart g w w' := by
  obtain ⟨i0, hi', hz0, hz1, hz2⟩ := info_parts info_pk
  obtain ⟨hl3, hcase⟩ := ho
  rcases hcase with ⟨he, _⟩ | ⟨g', cap', cur, he, hbg, hg, hnc, hcm, hsz, htake⟩
  · cases he
  · cases he
    have hst := run_storeCells_at Try.prog g (m * 3) 76 [.int .i64 0, .int .i64 0, .int .i64 0] 0 cur w hg (by simp; omega) (fun u hu => by simp only [List.mem_cons, List.not_mem_nil, or_false] at hu; rcases hu with rfl | rfl | rfl <;> rfl)
    simp only [Nat.add_zero] at hst
    have hzc : (Builtin.zeroCells (Value.agg #[.int .i64 0, .int .i64 0, .int .i64 0]).cells 1).toList = [.int .i64 0, .int .i64 0, .int .i64 0] := by first | kernel_rfl | (simp [Builtin.zeroCells]; done) | (unfold Builtin.zeroCells; rfl)
    obtain ⟨cs2, hcs2⟩ : ∃ cs2, (cur.toList.take (m * 3) ++ [Value.int .i64 0, .int .i64 0, .int .i64 0] ++ cur.toList.drop (m * 3 + ([Value.int .i64 0, .int .i64 0, .int .i64 0] : List Value).length)).toArray = cs2 := ⟨_, rfl⟩
    rw [hcs2] at hst
    have hrun : (Builtin.clear_ #[45] ty #[.slice (some ⟨g, m * 3, none⟩) 1 c]).run Try.prog w = .ok (.tuple #[]) (w.setRow g cs2) := by
      simp only [Builtin.clear_]
      simp [run_underlying Try.underlying45, zeroValue, typeInfo, hi', hz0, hzc, hst]
    refine ⟨w.setRow g cs2, hrun, ⟨hl3, .inr ⟨g, cap, cs2, rfl, hbg, setRow_heap w g cur cs2 _ _ hg, hnc, hcm, ?_, ?_⟩⟩, ⟨rfl, rfl, rfl, by simp, fun k _ hk => setRow_other w g k cs2 hk⟩⟩
    · rw [← hcs2]
      simp only [List.size_toArray, List.length_append, List.length_take, List.length_drop, Array.length_toList, List.length_cons, List.length_nil]
      omega
    · have : (cur.toList.take (m * 3)).length = m * 3 := by rw [List.length_take, Array.length_toList]; omega
      rw [← hcs2, List.append_assoc]
      show (cur.toList.take (m * 3) ++ _).take (m * 3) = _
      rw [List.take_append_of_le_length (by omega), List.take_of_length_le (by omega)]
      exact htake

set_option maxRecDepth 100000 in
set_option maxHeartbeats 1600000 in
/-- slices.Delete of one packet of a list of one's own. -/
theorem delete14 (bs g n cap i j : Nat) (l : List Pk) (hj : i + 1 = j) (hi : j ≤ n) (hn : n ≤ 1000) (w : World) (ho : w.ownsRow bs 76 3 (.slice (some ⟨g, 0, none⟩) n cap) n (pkV l)) :
    Calls Try.prog 106 #[.slice (some ⟨g, 0, none⟩) n cap, .int .i64 i, .int .i64 j] w fun e w' => ∃ m : Nat, m + 1 = n ∧ e = .returned (.slice (some ⟨g, 0, none⟩) m cap) ∧ w'.ownsRow bs 76 3 (.slice (some ⟨g, 0, none⟩) m cap) m (pkV (l.eraseIdx i)) ∧ Apart g w w' := by
  obtain ⟨m, hm⟩ : ∃ m, m + 1 = n := ⟨n - 1, by omega⟩
  have hnc : n ≤ cap ∧ cap ≤ 9223372036854775807 := by
    rcases ho.2 with ⟨he, _⟩ | ⟨g', cap', cur, he, hbg, hg, hnc, hcm, hsz, htake⟩
    · cases he
    · cases he; exact ⟨hnc, by unfold maxLen at hcm; omega⟩
  obtain ⟨hnc1, hnc2⟩ := hnc
  have hg := fun ad had => run_gap bs 45 g n cap i l (by omega) w.drew (show w.drew.ownsRow _ _ _ _ _ _ from ho) (cap - j) ad had
  rw [hj, show n - 1 = m by omega] at hg
  have hc := fun ty w1 ho1 => run_clear14 bs ty g m cap (cap - m) (l.eraseIdx i) (by omega) w1 ho1
  have HG := Lib.hid hg
  have HC := Lib.hid hc
  have HM := Lib.hid hm
  have i1 : (i : Int) ≤ (j : Int) := by omega
  have i2 : (j : Int) ≤ (n : Int) := by omega
  have i3 : (n : Int) ≤ (cap : Int) := by omega
  have i4 : ((i : Int) == (j : Int)) = false := by simp; omega
  have i5 : ¬ (i : Int) = (j : Int) := by omega
  have i6 : (i : Int) ≤ (cap : Int) := by omega
  have i7 : (j : Int) ≤ (cap : Int) := by omega
  have i8 : (m : Int) ≤ (n : Int) := by omega
  have n1 : i ≤ j := by omega
  have n2 : j ≤ cap := by omega
  have n3 : i ≤ cap := by omega
  have n4 : m ≤ n := by omega
  have n5 : ¬ i = j := by omega
  have n6 : ¬ cap = m := by omega
  have HN := Lib.hid (And.intro hj (And.intro hi hnc1))
  clear hg hc hm ho hj
  by_cases hcj : cap = j
  · obtain rfl : j = n := by omega
    obtain rfl : cap = j := by omega
    go_enter Try.func106, Try.ntmps106
    go_upto_region 5 with fail
    refine wp_region_keeps (fun _ => True) 6 2 (by kernel_rfl) (by kernel_rfl) trivial (fun hHeld => ?_)
    refine wpAnyK_take (i := 0) (v := ?_) rfl (by kernel_rfl) (fun _ _ _ h => h) (Or.inl ⟨by rfl, ?_⟩) (by assumption) ?_
    rotate_left
    · (intro w hSw; go_simp; try with_reducible rfl)
    try simp only [Act.put, List.getElem_toArray, List.getElem_cons_zero, List.getElem_cons_succ, List.setIfInBounds_toArray, List.set_cons_zero, List.set_cons_succ]
    refine wpAnyK_take (i := 1) (v := ?_) rfl (by kernel_rfl) (fun _ _ _ h => h) (Or.inl ⟨by rfl, ?_⟩) (by assumption) ?_
    rotate_left
    · (intro w hSw; go_simp; try with_reducible rfl)
    try simp only [Act.put, List.getElem_toArray, List.getElem_cons_zero, List.getElem_cons_succ, List.setIfInBounds_toArray, List.set_cons_zero, List.set_cons_succ]
    refine wpAnyK_take (i := 2) (v := ?_) rfl (by kernel_rfl) (fun _ _ _ h => h) (Or.inl ⟨by rfl, ?_⟩) (by assumption) ?_
    rotate_left
    · (intro w hSw; go_simp; try with_reducible rfl)
    try simp only [Act.put, List.getElem_toArray, List.getElem_cons_zero, List.getElem_cons_succ, List.setIfInBounds_toArray, List.set_cons_zero, List.set_cons_succ]
    refine wpAnyK_take (i := 3) (v := ?_) rfl (by kernel_rfl) (fun _ _ _ h => h) (Or.inl ⟨by rfl, ?_⟩) (by assumption) ?_
    rotate_left
    · (intro w hSw; go_simp; try with_reducible rfl)
    try simp only [Act.put, List.getElem_toArray, List.getElem_cons_zero, List.getElem_cons_succ, List.setIfInBounds_toArray, List.set_cons_zero, List.set_cons_succ]
    refine wpAnyK_take (i := 4) (v := ?_) rfl (by kernel_rfl) (fun _ _ _ h => h) (Or.inl ⟨by rfl, ?_⟩) (by assumption) ?_
    rotate_left
    · (intro w hSw; go_simp; try with_reducible rfl)
    try simp only [Act.put, List.getElem_toArray, List.getElem_cons_zero, List.getElem_cons_succ, List.setIfInBounds_toArray, List.set_cons_zero, List.set_cons_succ]
    refine wpAnyK_take (i := 5) (v := ?_) rfl (by kernel_rfl) (fun _ _ _ h => h) (Or.inl ⟨by rfl, ?_⟩) (by assumption) ?_
    rotate_left
    · (intro w hSw; go_simp; try with_reducible rfl)
    try simp only [Act.put, List.getElem_toArray, List.getElem_cons_zero, List.getElem_cons_succ, List.setIfInBounds_toArray, List.set_cons_zero, List.set_cons_succ]
    refine wpAnyK_done (by kernel_rfl) ?_
    simp only [List.drop_succ_cons, List.drop_zero]
    clear hHeld
    obtain ⟨w1, hr1, ho1, ha1⟩ := HG.out 0 (fun h => by have := HN.out; omega)
    rw [Nat.sub_self] at hr1
    obtain ⟨w2, hc2, ho2, ha2⟩ := HC.out 0 w1 ho1
    have hcl : ∀ ty, (Builtin.clear_ #[45] ty #[.slice (some ⟨g, m * 3, none⟩) 1 (cap - m)]).run Try.prog w1 = .ok (.tuple #[]) w2 := fun ty => by
      obtain ⟨w3, hc3, _, _⟩ := HC.out ty w1 ho1
      have e : (Builtin.clear_ #[45] ty #[.slice (some ⟨g, m * 3, none⟩) 1 (cap - m)]).run Try.prog w1 = (Builtin.clear_ #[45] 0 #[.slice (some ⟨g, m * 3, none⟩) 1 (cap - m)]).run Try.prog w1 := rfl
      rw [e]; exact hc2
    have HR1 := Lib.hid hr1
    have HF := Lib.hid (And.intro ho2 (show Apart g w w2 from (show Apart g w w1 from ⟨ha1.os, ha1.tape, ha1.output, ha1.size, ha1.block⟩).trans ha2))
    have n7 : cap - m = 1 := by have := HM.out; omega
    simp only [n7] at hcl
    clear hr1 ho1 ha1 hc2 ho2 ha2
    go_wp2_with (at_builtin; refine Lib.wpList_append_run _ rfl _ _ 45 45 rfl _ _ rfl rfl _ _ HR1.out ?_)
    go_ret
    exact ⟨m, HM.out, rfl, HF.out.1, HF.out.2⟩
  · have HJ := Lib.hid hcj
    go_enter Try.func106, Try.ntmps106
    go_upto_region 5 with fail
    refine wp_region_keeps (fun _ => True) 6 2 (by kernel_rfl) (by kernel_rfl) trivial (fun hHeld => ?_)
    refine wpAnyK_take (i := 0) (v := ?_) rfl (by kernel_rfl) (fun _ _ _ h => h) (Or.inl ⟨by rfl, ?_⟩) (by assumption) ?_
    rotate_left
    · (intro w hSw; go_simp; try with_reducible rfl)
    try simp only [Act.put, List.getElem_toArray, List.getElem_cons_zero, List.getElem_cons_succ, List.setIfInBounds_toArray, List.set_cons_zero, List.set_cons_succ]
    refine wpAnyK_take (i := 1) (v := ?_) rfl (by kernel_rfl) (fun _ _ _ h => h) (Or.inl ⟨by rfl, ?_⟩) (by assumption) ?_
    rotate_left
    · (intro w hSw; go_simp; try with_reducible rfl)
    try simp only [Act.put, List.getElem_toArray, List.getElem_cons_zero, List.getElem_cons_succ, List.setIfInBounds_toArray, List.set_cons_zero, List.set_cons_succ]
    refine wpAnyK_take (i := 2) (v := ?_) rfl (by kernel_rfl) (fun _ _ _ h => h) (Or.inl ⟨by rfl, ?_⟩) (by assumption) ?_
    rotate_left
    · (intro w hSw; go_simp; try with_reducible rfl)
    try simp only [Act.put, List.getElem_toArray, List.getElem_cons_zero, List.getElem_cons_succ, List.setIfInBounds_toArray, List.set_cons_zero, List.set_cons_succ]
    refine wpAnyK_take (i := 3) (v := ?_) rfl (by kernel_rfl) (fun _ _ _ h => h) (Or.inl ⟨by rfl, ?_⟩) (by assumption) ?_
    rotate_left
    · (intro w hSw; go_simp; try with_reducible rfl)
    try simp only [Act.put, List.getElem_toArray, List.getElem_cons_zero, List.getElem_cons_succ, List.setIfInBounds_toArray, List.set_cons_zero, List.set_cons_succ]
    refine wpAnyK_take (i := 4) (v := ?_) rfl (by kernel_rfl) (fun _ _ _ h => h) (Or.inl ⟨by rfl, ?_⟩) (by assumption) ?_
    rotate_left
    · (intro w hSw; go_simp; try with_reducible rfl)
    try simp only [Act.put, List.getElem_toArray, List.getElem_cons_zero, List.getElem_cons_succ, List.setIfInBounds_toArray, List.set_cons_zero, List.set_cons_succ]
    refine wpAnyK_take (i := 5) (v := ?_) rfl (by kernel_rfl) (fun _ _ _ h => h) (Or.inl ⟨by rfl, ?_⟩) (by assumption) ?_
    rotate_left
    · (intro w hSw; go_simp; try with_reducible rfl)
    try simp only [Act.put, List.getElem_toArray, List.getElem_cons_zero, List.getElem_cons_succ, List.setIfInBounds_toArray, List.set_cons_zero, List.set_cons_succ]
    refine wpAnyK_done (by kernel_rfl) ?_
    simp only [List.drop_succ_cons, List.drop_zero]
    clear hHeld
    obtain ⟨w1, hr1, ho1, ha1⟩ := HG.out (j * 3) (fun _ => rfl)
    obtain ⟨w2, hc2, ho2, ha2⟩ := HC.out 0 w1 ho1
    have hcl : ∀ ty, (Builtin.clear_ #[45] ty #[.slice (some ⟨g, m * 3, none⟩) 1 (cap - m)]).run Try.prog w1 = .ok (.tuple #[]) w2 := fun ty => by
      obtain ⟨w3, hc3, _, _⟩ := HC.out ty w1 ho1
      have e : (Builtin.clear_ #[45] ty #[.slice (some ⟨g, m * 3, none⟩) 1 (cap - m)]).run Try.prog w1 = (Builtin.clear_ #[45] 0 #[.slice (some ⟨g, m * 3, none⟩) 1 (cap - m)]).run Try.prog w1 := rfl
      rw [e]; exact hc2
    have HR1 := Lib.hid hr1
    have HF := Lib.hid (And.intro ho2 (show Apart g w w2 from (show Apart g w w1 from ⟨ha1.os, ha1.tape, ha1.output, ha1.size, ha1.block⟩).trans ha2))
    have n7 : n - m = 1 := by have := HM.out; omega
    clear hr1 ho1 ha1 hc2 ho2 ha2
    go_wp2_with (at_builtin; refine Lib.wpList_append_run _ rfl _ _ 45 45 rfl _ _ rfl rfl _ _ HR1.out ?_)
    go_ret
    exact ⟨m, HM.out, rfl, HF.out.1, HF.out.2⟩
end Go.Proofs.Ytknimlpdpgpliaa
