/- The document's Raise. By the verifier's side. -/
import Derived.Test.YtcbocglakielnaaRR5D
import Derived.Test.YtcbocglakielnaaRLong
namespace Go.Proofs.Ytcbocglakielnaa
open Go.RowKit
set_option linter.unusedSimpArgs false
set_option linter.unusedVariables false

/-- A list that grows value by value in the block g, in the box B; both are younger than W. -/
structure Aq (W : World) (B : Nat) (p inc : Int) (f : Nat → Int) (k g cap : Nat) (u : World) : Prop where
  below : Below W.heap.size W u
  out : Cur3 u B (.slice (some ⟨g, 0, none⟩) k cap) (.int .i64 p) (.int .i64 inc)
  own : u.ownsRow W.heap.size 3 1 (.slice (some ⟨g, 0, none⟩) k cap) k ((firsts f k).map (Value.int .i64))
  hB : W.heap.size ≤ B
  ne : ¬ g = B
theorem owns_below {w w' : World} {base : Nat} {v : Value} {k : Nat} {xs : List Value} (h : w.ownsRow base 3 1 v k xs) (ha : Below w.heap.size w w') : w'.ownsRow base 3 1 v k xs := by
  obtain ⟨hl, hr⟩ := h
  refine ⟨hl, ?_⟩
  rcases hr with h0 | ⟨g, cap, cur, hv, hbase, hg, h1, h2, h3, h4⟩
  · exact .inl h0
  · refine .inr ⟨g, cap, cur, hv, hbase, ?_, h1, h2, h3, h4⟩
    have hlt : g < w.heap.size := by
      rcases Nat.lt_or_ge g w.heap.size with h' | h'
      · exact h'
      · rw [Array.getElem?_eq_none h'] at hg; cases hg
    exact (ha.block g hlt).trans hg
theorem Aq.under {W : World} {B : Nat} {p inc : Int} {f : Nat → Int} {k g cap : Nat} {u v : World} (h : Aq W B p inc f k g cap u) (hb : Below u.heap.size u v) : Aq W B p inc f k g cap v :=
  ⟨h.below.trans (hb.mono h.below.size), h.out.below hb, owns_below h.own hb, h.hB, h.ne⟩
theorem Aq.alloc {W : World} {B : Nat} {p inc : Int} {f : Nat → Int} {k g cap : Nat} {u : World} (h : Aq W B p inc f k g cap u) (o : Obj) : Aq W B p inc f k g cap (u.alloc o) := h.under ((Below.refl _ _).alloc (Nat.le_refl _) o)
theorem Aq.drew {W : World} {B : Nat} {p inc : Int} {f : Nat → Int} {k g cap : Nat} {u : World} (h : Aq W B p inc f k g cap u) : Aq W B p inc f k g cap u.drew := h.under (Below.refl _ _).drew
theorem Aq.push {W : World} {B : Nat} {p inc : Int} {f : Nat → Int} {k g cap g' cap' : Nat} {u v : World} (h : Aq W B p inc f k g cap u) {z : Int} (hown : v.ownsRow W.heap.size 3 1 (.slice (some ⟨g', 0, none⟩) (k + 1) cap') (k + 1) ((firsts f k).map (Value.int .i64) ++ [Value.int .i64 z])) (hg : u.grownBy v (Value.slice (some ⟨g, 0, none⟩) k cap).ownBlock) (hat : g' = g ∨ g' = u.heap.size) (hz : f k = z) :
    Aq W B p inc f (k + 1) g' cap' (v.setCell ⟨B, 0, none⟩ (.slice (some ⟨g', 0, none⟩) (k + 1) cap')) ∧ Cur3 v B (.slice (some ⟨g, 0, none⟩) k cap) (.int .i64 p) (.int .i64 inc) := by
  have hc : Cur3 v B (.slice (some ⟨g, 0, none⟩) k cap) (.int .i64 p) (.int .i64 inc) := h.out.grownS hg h.ne
  have hne : ¬ g' = B := by
    rcases hat with rfl | rfl
    · exact h.ne
    · have := h.out.lt; omega
  have hlow := (h.own.lt g rfl).1
  refine ⟨⟨((h.below.grown hg h.below.size (fun j hj => by cases hj; exact hlow)).setCell (p := ⟨B, 0, none⟩) h.hB _), hc.set0 _, ?_, h.hB, hne⟩, hc⟩
  rw [firsts_succ, List.map_append, hz]
  exact owns_ne hown (p := ⟨B, 0, none⟩) hne _
theorem Aq.row {W : World} {B : Nat} {p inc : Int} {f : Nat → Int} {k g cap : Nat} {u : World} (h : Aq W B p inc f k g cap u) (hk : k ≤ 100000) (hb : ∀ t, t < k → In64 (f t)) : RowZ u (some ⟨g, 0, none⟩) k cap (firsts f k) := by
  obtain ⟨a9, c9, hv9, R9, _⟩ := rowZ_of_owns h.own (by omega) (fun i hi => by rw [firsts_length] at hi; rw [firsts_getD _ _ _ hi]; exact hb i hi)
  cases hv9
  exact R9
/-- The beginning: a list of one value that lies in a literal. -/
theorem Aq.start1 (W : World) (p inc : Int) (f : Nat → Int) {z : Int} (hz : f 0 = z) : Aq W (W.heap.size + 1) p inc f 1 W.heap.size 1 ((W.alloc (.cells #[.int .i64 z] 3)).alloc (.cells #[.slice (some ⟨W.heap.size, 0, none⟩) 1 1, .int .i64 p, .int .i64 inc] 24)) := by
  refine ⟨((Below.refl _ _).alloc (Nat.le_refl _) _).alloc (by simp) _, Cur3.new2 W _ _ _ _ _, ?_, Nat.le_succ _, by omega⟩
  refine owns_below (w := W.alloc (.cells #[.int .i64 z] 3)) ?_ (below_box _)
  refine ⟨by simp [firsts], .inr ⟨W.heap.size, 1, #[.int .i64 z], rfl, Nat.le_refl _, heap_alloc_new W _, Nat.le_refl _, by unfold maxLen; omega, rfl, ?_⟩⟩
  show [Value.int .i64 z] = (firsts f 1).map (Value.int .i64)
  rw [show firsts f 1 = [f 0] from rfl, hz]; rfl

theorem Day.raise {E : Nat → Option Int} (h : Day E) (c : Int) : Day (fun t => if t = 0 then some 0 else omap (fun x => x + c) (E t)) := by
  obtain ⟨s, k, hp, hn | hs⟩ := h
  · exact day_none (s := s + 1) fun t ht => by
      show (if t = 0 then some 0 else omap _ (E t)) = none
      rw [if_neg (by omega), hn t (by omega)]; rfl
  · refine day_some (s := s + 1) (F := fun t => encF E t + c) (c := k) (fun t ht => ?_) (fun t ht => ?_)
    · show (if t = 0 then some 0 else omap _ (E t)) = _
      rw [if_neg (by omega), hs t (by omega)]; rfl
    · show encF E (t + 24) + c = encF E t + c + k
      have := hp t (by omega); omega

set_option maxRecDepth 100000 in
set_option maxHeartbeats 6400000 in
theorem rraise_ok (a : Option Addr) (n cap : Nat) (zs : List Int) (p : Nat) (inc : Int) (g : Good zs p inc) (ci : Int) (hc0 : 0 ≤ ci) (hc1 : ci ≤ 1073741824) (w : World) (h : RowZ w a n cap zs) :
    Calls Try.prog 28 #[curV a n cap p inc, .int .i64 ci] w (GivesE (eRaise ci zs p inc) w) := by
  obtain ⟨ii0, ihi, ihz0, ihz1, ihz2⟩ := info_parts info_int
  obtain ⟨W, hW⟩ : ∃ W, (w.alloc (.cells #[.slice a n cap, .int .i64 p, .int .i64 inc] 24)).alloc (.cells #[.slice none 0 0, .int .i64 0, .int .i64 0] 24) = W := ⟨_, rfl⟩
  have hB : Below w.heap.size w W := by rw [← hW]; exact ((Below.refl _ _).alloc (Nat.le_refl _) _).alloc (by simp) _
  have hWs : W.heap.size = w.heap.size + 2 := by rw [← hW]; simp
  have HB := Lib.hid hB
  have HWS := Lib.hid hWs
  have KR := Lib.hid (show Cur3 W (w.heap.size + 1) (.slice none 0 0) (.int .i64 0) (.int .i64 0) by rw [← hW]; exact Cur3.new2 w _ _ _ _ _)
  have HR := Lib.hid (h.under hB)
  have HG := Lib.hid g
  have HW := Lib.hid hW
  obtain ⟨c0, c1, c2, f0, f1, f2⟩ : Cur3 W w.heap.size (.slice a n cap) (.int .i64 p) (.int .i64 inc) := by rw [← hW]; exact (Cur3.new w _ _ _ _).alloc _
  clear hB hWs h g hW
  go_enter Try.func28, Try.ntmps28
  go_upto_region 1 with fail
  try rw [HW.out]
  go_wp2_with fail
  clear c0 c1 c2 f0 f1 f2
  refine (rnormal_ok a n cap zs p inc HG.out _ HR.out).mono ?_
  rintro e v1 ⟨a', n', cap', zs', p', inc', rfl, hb, hr, hn, hx⟩
  obtain ⟨W2, hw2⟩ : ∃ W', v1.alloc (.cells #[.slice a' n' cap', .int .i64 p', .int .i64 inc'] 24) = W' := ⟨_, rfl⟩
  have hz2 : Below v1.heap.size v1 W2 := by rw [← hw2]; exact below_box _
  obtain ⟨A, hA⟩ : ∃ A, v1.heap.size = A := ⟨_, rfl⟩
  have XA := Lib.hid (show Bx W2 A a' n' cap' p' inc' zs' by rw [← hw2, ← hA]; exact Bx.new hr)
  have hWz : Below W.heap.size W W2 := hb.trans (hz2.mono hb.size)
  have KR2 := Lib.hid (KR.out.below hWz)
  have HB2 := Lib.hid (HB.out.trans (hWz.mono HB.out.size))
  have GN := Lib.hid (hn.good HG.out)
  have HEE := Lib.hid (show eRaise ci zs' p' inc' = eRaise ci zs p inc from funext fun t => by unfold eRaise; simp only [(hn.eform HG.out).2.1])
  have hnl : zs'.length = n' := hr.len
  have HNL := Lib.hid hnl
  have gp := GN.out.p1
  have gp2 := GN.out.p2
  have gn : n' ≤ 400 := by have := GN.out.few; omega
  have gi := GN.out.i0
  have gi2 := GN.out.i1
  have HRAW := Lib.hid (raise_raw GN.out hc0 hc1)
  have te : ¬ ci < 0 := by omega
  have te2 : ¬ (1073741824 : Int) < ci := by omega
  have te3 : decide (ci < 0) = false := decide_eq_false te
  have te4 : decide ((1073741824 : Int) < ci) = false := decide_eq_false te2
  obtain ⟨f, hf⟩ : ∃ f, encF (eRaise ci zs' p' inc') = f := ⟨_, rfl⟩
  have HF := Lib.hid hf
  have HVAL := Lib.hid (show ∀ t, 1 ≤ t → t ≤ 1048576 → f t = plI (atC zs' p' inc' t) ci from fun t h1 h2 => by
    rw [← hf]; unfold encF; rw [raise_val GN.out h2 hc1, if_neg (by omega)])
  obtain ⟨MM, hMM⟩ : ∃ m, n' + p' + 1 = m := ⟨_, rfl⟩
  have hMMb : 2 ≤ MM ∧ MM ≤ 801 := by omega
  obtain ⟨hMM1, hMM2⟩ := hMMb
  have HIN := Lib.hid (show ∀ t, t < MM → In64 (f t) from fun t ht => by
    rcases Nat.eq_zero_or_pos t with rfl | h1
    · rw [← hf, show encF (eRaise ci zs' p' inc') 0 = 0 by unfold encF eRaise; rw [if_pos rfl]; rfl]; exact ⟨by decide, by decide⟩
    · rw [HVAL.out t h1 (by omega)]
      have b := (sum_mid (at_low GN.out (t := t) (by omega)) (y := ci) (.inr ⟨hc0, by omega⟩)).bd
      exact ⟨by omega, by omega⟩)
  obtain ⟨W3, hw3⟩ : ∃ W', (W2.alloc (.cells #[.int .i64 0] 3)).alloc (.cells #[.slice (some ⟨W2.heap.size, 0, none⟩) 1 1, .int .i64 p', .int .i64 inc'] 24) = W' := ⟨_, rfl⟩
  have L0 := Lib.hid (show Aq W2 (W2.heap.size + 1) p' inc' f 1 W2.heap.size 1 W3 by rw [← hw3]; exact Aq.start1 W2 _ _ _ (by rw [← hf]; rfl))
  have hq1 : IntKind.i64.wrap ((n' : Int) + (p' : Int)) = (n' : Int) + (p' : Int) := IntWalk.i64_in _ ⟨by omega, by omega⟩
  have hq2 : IntKind.i64.wrap ((n' : Int) + (p' : Int) + 1) = (n' : Int) + (p' : Int) + 1 := IntWalk.i64_in _ ⟨by omega, by omega⟩
  have HMM := Lib.hid hMM
  have KS8 := Lib.hid (show ∀ (gg cc k : Nat) (u : World), Aq W2 (W2.heap.size + 1) p' inc' f k gg cc u → ((u.cell? ⟨A, 0, none⟩ = some (.slice a' n' cap') ∧ u.cell? ⟨A, 1, none⟩ = some (.int .i64 p') ∧ u.cell? ⟨A, 2, none⟩ = some (.int .i64 inc')) ∧ u.cell? ⟨W2.heap.size + 1, 0, none⟩ = some (.slice (some ⟨gg, 0, none⟩) k cc)) from fun gg cc k u hu => by
    have x := XA.out.box.below hu.below
    exact ⟨⟨x.c0, x.c1, x.c2⟩, hu.out.c0⟩)
  have HW2 := Lib.hid hw2
  have HAE := Lib.hid hA
  have HW3 := Lib.hid hw3
  obtain ⟨g0, g1, g2, g3, g4, g5⟩ := XA.out.box
  clear hb hr hn hx hw2 hz2 hA hWz hf hw3 hMM hnl
  go_upto_region 4 with fail
  try rw [HW2.out]
  try rw [HAE.out]
  go_upto_region 7 with fail
  try rw [HW3.out]
  clear g0 g1 g2 g3 g4 g5
  go_wp2_with fail
  go_loopw [9] (fun sl wx => ∃ (k gg cc : Nat), sl = .int .i64 k ∧ 1 ≤ k ∧ k ≤ MM ∧ Hid (Aq W2 (W2.heap.size + 1) p' inc' f k gg cc wx)) (fun sl _ => MM - (intOf sl).toNat)
  case atStart => exact ⟨1, W2.heap.size, 1, by go_num, by omega, by omega, L0⟩
  case round =>
    obtain ⟨k, gg, cc, rfl, hk1, hk, HS⟩ := hrel
    obtain ⟨wk, rfl⟩ : ∃ u : World, u = wr := ⟨_, rfl⟩
    obtain ⟨g0, g1, g2, g3, g4, g5⟩ := XA.out.box.below HS.out.below
    by_cases hlt : k < MM
    · have hh : (k : Int) < (n' : Int) + (p' : Int) + 1 := by have := HMM.out; omega
      obtain ⟨vx, hvx⟩ : ∃ v, atC zs' p' inc' k = v := ⟨_, rfl⟩
      have MX := Lib.hid (show Mid vx by rw [← hvx]; exact at_mid GN.out (by omega))
      have MY := Lib.hid (show Mid ci from .inr ⟨hc0, by omega⟩)
      have HVX := Lib.hid hvx
      obtain ⟨vv, hvv⟩ : ∃ v, plI vx ci = v := ⟨_, rfl⟩
      have HVV := Lib.hid (show f k = vv by rw [← hvv, ← HVX.out]; exact HVAL.out k hk1 (by omega))
      have HVW := Lib.hid hvv
      have HS0 := Lib.hid HS.out.drew
      clear hvv hvx
      go_upto_region 10 with fail
      clear g0 g1 g2 g3 g4 g5
      refine wp_region_keeps (fun u => ((u.cell? ⟨A, 0, none⟩ = some (.slice a' n' cap') ∧ u.cell? ⟨A, 1, none⟩ = some (.int .i64 p') ∧ u.cell? ⟨A, 2, none⟩ = some (.int .i64 inc')) ∧ u.cell? ⟨W2.heap.size + 1, 0, none⟩ = some (.slice (some ⟨gg, 0, none⟩) k cc))) 8 3 (by kernel_rfl) (by kernel_rfl) (KS8.out _ _ _ _ HS0.out) (fun hHeld0 => ?_)
      refine wpAnyK_take (i := 0) (v := ?_) rfl (by kernel_rfl) (fun _ _ _ h => h) (Or.inl ⟨by rfl, ?_⟩) (by assumption) ?_
      rotate_left
      · (intro w hSw; (try dsimp only at hSw); go_simp; try with_reducible rfl)
      try simp only [Act.put, List.getElem_toArray, List.getElem_cons_zero, List.getElem_cons_succ, List.setIfInBounds_toArray, List.set_cons_zero, List.set_cons_succ]
      refine wpAnyK_take (i := 1) (v := ?_) rfl (by kernel_rfl) (fun _ _ _ h => h) (Or.inl ⟨by rfl, ?_⟩) (by assumption) ?_
      rotate_left
      · (intro w hSw; (try dsimp only at hSw); go_simp; try with_reducible rfl)
      try simp only [Act.put, List.getElem_toArray, List.getElem_cons_zero, List.getElem_cons_succ, List.setIfInBounds_toArray, List.set_cons_zero, List.set_cons_succ]
      refine wpAnyK_take (i := 2) (v := ?_) rfl (by kernel_rfl) (fun _ _ _ h => h) (Or.inl ⟨by rfl, ?_⟩) (by assumption) ?_
      rotate_left
      · (intro w hSw; (try dsimp only at hSw); go_simp; try with_reducible rfl)
      try simp only [Act.put, List.getElem_toArray, List.getElem_cons_zero, List.getElem_cons_succ, List.setIfInBounds_toArray, List.set_cons_zero, List.set_cons_succ]
      refine wpAnyK_take (i := 3) (v := ?_) rfl (by kernel_rfl) (fun _ _ _ h => h) (Or.inl ⟨by rfl, ?_⟩) (by assumption) ?_
      rotate_left
      · (intro w hSw; (try dsimp only at hSw); go_simp; try with_reducible rfl)
      try simp only [Act.put, List.getElem_toArray, List.getElem_cons_zero, List.getElem_cons_succ, List.setIfInBounds_toArray, List.set_cons_zero, List.set_cons_succ]
      refine wpAnyK_take (i := 5) (v := ?_) rfl (by kernel_rfl) (fun _ _ _ h => h) (Or.inl ⟨by rfl, ?_⟩) (by assumption) ?_
      rotate_left
      · (intro w hSw; (try dsimp only at hSw); go_simp; try with_reducible rfl)
      try simp only [Act.put, List.getElem_toArray, List.getElem_cons_zero, List.getElem_cons_succ, List.setIfInBounds_toArray, List.set_cons_zero, List.set_cons_succ]
      refine wpAnyK_step (i := 4) rfl (by kernel_rfl) (fun K hK => ?_)
      go_simp
      with_reducible refine (rat_at a' n' cap' zs' p' inc' GN.out _ k rfl (by omega) vx HVX.out _ (XA.out.row.under HS0.out.below)).mono ?_
      rintro e u1 ⟨rfl, hb⟩
      have HS1 := Lib.hid (HS0.out.under hb)
      clear hb
      refine hK.out _ _ (KS8.out _ _ _ _ HS1.out) (fun hHeld1 => ?_)
      clear hK K hHeld0
      try simp only [Act.put, List.getElem_toArray, List.getElem_cons_zero, List.getElem_cons_succ, List.setIfInBounds_toArray, List.set_cons_zero, List.set_cons_succ]
      refine wpAnyK_step (i := 6) rfl (by kernel_rfl) (fun K hK => ?_)
      go_simp
      with_reducible refine (rplus_any vx ci MX.out MY.out _).mono ?_
      rintro e ux ⟨rfl, rfl⟩
      rw [HVW.out]
      refine hK.out _ _ (KS8.out _ _ _ _ HS1.out) (fun hHeld2 => ?_)
      clear hK K hHeld1
      try simp only [Act.put, List.getElem_toArray, List.getElem_cons_zero, List.getElem_cons_succ, List.setIfInBounds_toArray, List.set_cons_zero, List.set_cons_succ]
      obtain ⟨w7, hw7⟩ : ∃ u : World, u = ux := ⟨_, rfl⟩
      refine wpAnyK_step (i := 7) rfl (by kernel_rfl) (fun K hK => ?_)
      go_simp
      refine hK.out _ _ (KS8.out _ _ _ _ (HS1.out.alloc _)) (fun hHeldb => ?_)
      clear hK K hHeld2
      try simp only [Act.put, List.getElem_toArray, List.getElem_cons_zero, List.getElem_cons_succ, List.setIfInBounds_toArray, List.set_cons_zero, List.set_cons_succ]
      refine wpAnyK_done (by kernel_rfl) ?_
      simp only [List.drop_succ_cons, List.drop_zero]
      clear hHeldb
      subst hw7
      have N8 : Hid (∀ j u, [Value.int .i64 vv][j]? = some u → (w7.alloc (.cells #[.int .i64 vv] 3)).cell? ((⟨w7.heap.size, 0, none⟩ : Addr).add j) = some u) := Lib.hid (World.news_of_block (cs := #[.int .i64 vv]) (t := 3) (fr := (0, 0)) (heap_alloc_new w7 _))
      have L8 := Lib.hid (HS1.out.alloc (.cells #[.int .i64 vv] 3))
      have hlt8 : W2.heap.size ≤ (w7.alloc (.cells #[.int .i64 vv] 3)).heap.size := L8.out.below.size
      generalize w7.alloc (.cells #[.int .i64 vv] 3) = w8 at L8 N8 hlt8 ⊢
      go_wp2_with (at_builtin; refine wpList_append_lies _ rfl _ _ 22 rfl W2.heap.size 3 ii0 (.int .i64 0) 1 8 Try.underlying22 ihi ihz0 ihz1 ihz2 rfl (by decide) (.slice (some ⟨gg, 0, none⟩) k cc) k ((firsts f k).map (Value.int .i64)) rfl L8.out.own ⟨w7.heap.size, 0, none⟩ 1 1 [.int .i64 vv] rfl rfl N8.out ?c2 (by omega) ?c3 ?c4 hlt8 _ rfl ?_)
      case c2 => intro u hu; simp at hu; subst hu; rfl
      case c3 => unfold maxLen; omega
      case c4 => omega
      intro g9 cap9 w9 hown' hgrow hat hlt9
      obtain ⟨lnext, kout⟩ := L8.out.push hown' hgrow (hatOf hat) HVV.out
      have L10 := Lib.hid lnext
      clear hown' hgrow lnext hat
      obtain ⟨o0, o1, o2, o3, o4, o5⟩ := kout
      go_wp2_with fail
      go_roundw
      case rel => exact ⟨k + 1, g9, cap9, by go_num, by omega, by omega, L10⟩
      case measure => simp [intOf]; omega
    · have hh : ¬ (k : Int) < (n' : Int) + (p' : Int) + 1 := by have := HMM.out; omega
      obtain rfl : k = MM := by omega
      have RLAST := Lib.hid (HS.out.row (by omega) HIN.out)
      have HBL := Lib.hid (HB2.out.trans (HS.out.below.mono HB2.out.size))
      have KRL := Lib.hid (KR2.out.below HS.out.below)
      have HRW := Lib.hid (show RawE (firsts f k) p' inc' (eRaise ci zs' p' inc') by
        have h := HRAW.out
        rw [HF.out, HNL.out, HMM.out] at h
        exact h)
      obtain ⟨o0, o1, o2, o3, o4, o5⟩ := HS.out.out
      go_wp2_with fail
      clear o0 o1 o2 o3 o4 o5 g0 g1 g2 g3 g4 g5
      refine (rmade_ok _ _ _ _ _ _ HRW.out _ RLAST.out).mono ?_
      rintro e v9 ⟨hb, ⟨a9, n9, cap9, z9, p9, i9, rfl, hr, hf, hx⟩ | ⟨rfl, hno⟩⟩
      · have HP := Lib.hid (GivesE.post (E := eRaise ci zs p inc) (b := w.heap.size + 1) HBL.out (by omega) KRL.out.lt hb hr hx (by rw [← HEE.out]; exact hf))
        obtain ⟨r0, r1, r2, r3, r4, r5⟩ := KRL.out.below hb
        clear hb hr hf hx
        go_wp2_with fail
        exact bodyPost_ret (v := .tuple #[curV a9 n9 cap9 p9 i9, .int .i64 0]) (by simp [results, Try.results28, go_sem, r0, r1, r2]) rfl HP.out
      · have HP := Lib.hid (GivesE.postNo (E := eRaise ci zs p inc) (b := w.heap.size + 1) HBL.out (by omega) hb (by rw [← HEE.out]; exact hno))
        obtain ⟨r0, r1, r2, r3, r4, r5⟩ := KRL.out.below hb
        clear hb hno
        go_wp2_with fail
        exact bodyPost_ret (v := .tuple #[curV none 0 0 0 0, .int .i64 3]) (by simp [results, Try.results28, go_sem, r0, r1, r2]) rfl HP.out

end Go.Proofs.Ytcbocglakielnaa
