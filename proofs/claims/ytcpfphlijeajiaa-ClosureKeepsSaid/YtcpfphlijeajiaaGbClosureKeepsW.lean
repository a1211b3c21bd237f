/- The walk of ClosureKeeps. By the verifier's side. -/
import Derived.Test.YtcpfphlijeajiaaGbCloFCloXCloG
import Derived.Test.YtcpfphlijeajiaaGbConvolutionConcaveW
namespace Go.Proofs.Ytcpfphlijeajiaa
open Go.RowKit
set_option linter.unusedSimpArgs false
set_option linter.unusedVariables false

theorem conc_suba {zs : List Int} {inc : Int} (hf : ¬ InfC zs) (h : Conc (atC zs 1 inc)) : SubA (eC zs 1 inc) := fun s u => by
  rw [eC_fin hf, eC_fin hf, eC_fin hf]
  have := conc_sum h h (show s ≤ s + u by omega)
  rw [show s + u - s = u by omega] at this
  exact ole_some (by omega)
/-- A short curve of period 1 that is its own closure has one. -/
theorem keeps_can {zs ys : List Int} {q : Nat} {inc jnc : Int} (g : Good zs 1 inc) (hl : zs.length ≤ 60) (hs : SubA (eC zs 1 inc)) (h0 : eC zs 1 inc 0 = some 0) (hn : NormC zs 1 inc ys q jnc) : CloCan ys q jnc ∧ EForm ys q jnc (eC zs 1 inc) ∧ eClo ys q jnc = eC zs 1 inc := by
  have hf := hn.eform g
  have e : eClo ys q jnc = eC zs 1 inc := by rw [clo_norm g hn, clo_self hs h0]
  have hf2 := hf
  obtain ⟨k, hv, s, hs2, hno⟩ := hf2
  have ev : atC ys q jnc = atC zs 1 inc := funext (hn.values g)
  rw [ev] at hno
  have hp := g.perAny
  have h1 := hno.start_le hp (Nat.le_refl 1)
  have h2 := hno.per_le hp (Nat.le_refl 1)
  have hq := k.p1
  have g3 := g.p3
  refine ⟨⟨by omega, ys, q, jnc, by rw [e]; exact hf, ?_⟩, hf, e⟩
  by_cases hi : InfC ys
  · rw [comL_inf hi]; omega
  · rw [comL_fin hi]
    obtain rfl : q = 1 := by omega
    decide

set_option maxRecDepth 100000 in
set_option maxHeartbeats 6400000 in
theorem closureKeeps_walk (W : World) (a : Option Addr) (n cap : Nat) (hrow : RowAt W a n cap) :
    Calls Try.prog 8 #[.slice a n cap] W fun e w' => e = .returned (.bool true) ∧ Below W.heap.size W w' := by
  have HR := Lib.hid hrow
  clear hrow
  obtain ⟨i0, hi0, hz0, hz1, hz2⟩ := info_parts info_int
  go_enter Try.func8, Try.ntmps8
  go_wp2_with fail
  refine (new_any a n cap _ HR.out).mono ?_
  rintro e u1 ⟨rfl, hb1, hz1', ra, rn, rc, hs1⟩
  have HB1 := Lib.hid hb1
  have HS1 := Lib.hid hs1
  have Z1 := Lib.hid hz1'
  clear hb1 hz1' hs1
  go_wp2_with fail
  obtain ⟨w2, hw2⟩ : ∃ u, (u1.alloc (.cells #[.int .i64 0] 3)).alloc (.cells #[.slice (some ⟨u1.heap.size, 0, none⟩) 1 1, .int .i64 1, .int .i64 0] 24) = u := ⟨_, rfl⟩
  have Q0 := Lib.hid (show Cv7 u1 W.heap.size ra rn rc (u1.heap.size + 1) u1.heap.size 1 1 [0] w2 by rw [← hw2]; exact Cv7.new u1 HS1.out)
  rw [hw2]
  clear hw2
  refine (n_any 20 (by omega) (by omega) _ ra rn rc _ (Q0.out.held.at HS1.out)).mono ?_
  rintro e u3 ⟨r3, ⟨r30, r31⟩, rfl, hs3, he3⟩
  have t1 : IntKind.i64.wrap ((20 : Int) + r3) = 20 + r3 := IntWalk.i64_in _ ⟨by omega, by omega⟩
  have Q1 := Lib.hid (Q0.out.call hs3 he3.apart)
  clear hs3 he3
  go_wp2_with fail
  refine (n_any 7 (by omega) (by omega) _ ra rn rc _ (Q1.out.held.at HS1.out)).mono ?_
  rintro e u4 ⟨r4, ⟨r40, r41⟩, rfl, hs4, he4⟩
  have Q2 := Lib.hid (Q1.out.call hs4 he4.apart)
  clear hs4 he4
  obtain ⟨sA, hsA⟩ : ∃ s, (20 : Int) + r3 = s := ⟨_, rfl⟩
  have SK := Lib.hid (show Sink [0] sA from Sink.start (by omega) (by omega))
  go_wp2_with fail
  go_loopw [5, 6] (fun s5 s6 wx => ∃ (N g1 cap1 : Nat) (zs : List Int) (k st : Int), s5 = .int .i64 st ∧ s6 = .int .i64 k ∧ (-1 ≤ k ∧ k ≤ 6) ∧ (N : Int) + k ≤ 7 ∧ 1 ≤ N ∧ Hid (Sink zs st) ∧ Hid (Cv7 u1 W.heap.size ra rn rc (u1.heap.size + 1) g1 N cap1 zs wx)) (fun _ s6 _ => (intOf s6 + 1).toNat)
  case atStart => exact ⟨1, u1.heap.size, 1, [0], r4, sA, rfl, rfl, by omega, by omega, by omega, SK, Q2⟩
  case round =>
    obtain ⟨N, g1, cap1, zs, k, st, rfl, rfl, hk, hNk, hN1, hsink, QL⟩ := hrel
    obtain ⟨w5, rfl⟩ : ∃ u : World, u = wr := ⟨_, rfl⟩
    by_cases hk0 : (0 : Int) ≤ k
    · obtain ⟨j, hj⟩ : ∃ j, N = j + 1 := ⟨N - 1, by omega⟩
      obtain ⟨l, hl⟩ : ∃ l, zs.getD j 0 = l := ⟨_, rfl⟩
      have hlen := QL.out.len
      have hlb := hsink.out.bd j (by omega)
      rw [hl] at hlb
      have hjN : j ≤ 8 := by omega
      have hst0 := hsink.out.s0
      have hst1 := hsink.out.s1
      have hcj : w5.cell? ⟨g1, j, none⟩ = some (.int .i64 l) := by rw [← hl]; exact owns_cell QL.out.row (by omega)
      have s1 : (N : Int) - 1 = (j : Int) := by omega
      have s2 : IntKind.i64.wrap ((N : Int) - 1) = (j : Int) := by rw [s1]; exact IntWalk.i64_in _ ⟨by omega, by omega⟩
      have s3 : (0 : Int) ≤ (j : Int) := by omega
      have s5 : IntKind.i64.wrap (j : Int) = (j : Int) := IntWalk.i64_in _ ⟨by omega, by omega⟩
      have s4 : (j : Int) < (N : Int) := by omega
      have s6 : IntKind.i64.wrap (l + st) = l + st := IntWalk.i64_in _ ⟨by omega, by omega⟩
      have HL := Lib.hid (And.intro hl (And.intro hlen hj))
      have HX := Lib.hid (And.intro hlb (And.intro hst0 hst1))
      have c0 := QL.out.box.c0
      clear hl hlen hj hlb hst0 hst1
      go_wp2_with fail
      refine wp_region_keeps (fun u => u.cell? ⟨u1.heap.size + 1, 0, none⟩ = some (.slice (some ⟨g1, 0, none⟩) N cap1) ∧ u.cell? ⟨g1, j, none⟩ = some (.int .i64 l)) 13 3 (by kernel_rfl) (by kernel_rfl) ⟨c0, hcj⟩ (fun hHeld => ?_)
      refine wpAnyK_take (i := 0) (v := ?_) rfl (by kernel_rfl) (fun _ _ _ h => h) (Or.inl ⟨by rfl, ?_⟩) (by assumption) ?_
      rotate_left
      · (intro w hSw; (try dsimp only at hSw); go_simp; try with_reducible rfl)
      try simp only [Act.put, List.getElem_toArray, List.getElem_cons_zero, List.getElem_cons_succ, List.setIfInBounds_toArray, List.set_cons_zero, List.set_cons_succ]
      refine wpAnyK_take (i := 1) (v := ?_) rfl (by kernel_rfl) (fun _ _ _ h => h) (Or.inl ⟨by rfl, ?_⟩) (by assumption) ?_
      rotate_left
      · (intro w hSw; (try dsimp only at hSw); go_simp; try with_reducible rfl)
      try simp only [Act.put, List.getElem_toArray, List.getElem_cons_zero, List.getElem_cons_succ, List.setIfInBounds_toArray, List.set_cons_zero, List.set_cons_succ]
      refine wpAnyK_take (i := 2) (v := ?_) rfl (by kernel_rfl) (fun _ _ _ h => h) (Or.inl ⟨by rfl, ?_⟩) (by assumption) ?_
      rotate_left
      · (intro w hSw; (try dsimp only at hSw); go_simp; try with_reducible rfl)
      try simp only [Act.put, List.getElem_toArray, List.getElem_cons_zero, List.getElem_cons_succ, List.setIfInBounds_toArray, List.set_cons_zero, List.set_cons_succ]
      refine wpAnyK_take (i := 3) (v := ?_) rfl (by kernel_rfl) (fun _ _ _ h => h) (Or.inl ⟨by rfl, ?_⟩) (by assumption) ?_
      rotate_left
      · (intro w hSw; (try dsimp only at hSw); go_simp; try with_reducible rfl)
      try simp only [Act.put, List.getElem_toArray, List.getElem_cons_zero, List.getElem_cons_succ, List.setIfInBounds_toArray, List.set_cons_zero, List.set_cons_succ]
      refine wpAnyK_take (i := 4) (v := ?_) rfl (by kernel_rfl) (fun _ _ _ h => h) (Or.inl ⟨by rfl, ?_⟩) (by assumption) ?_
      rotate_left
      · (intro w hSw; (try dsimp only at hSw); go_simp; try with_reducible rfl)
      try simp only [Act.put, List.getElem_toArray, List.getElem_cons_zero, List.getElem_cons_succ, List.setIfInBounds_toArray, List.set_cons_zero, List.set_cons_succ]
      refine wpAnyK_take (i := 5) (v := ?_) rfl (by kernel_rfl) (fun _ _ _ h => h) (Or.inl ⟨by rfl, ?_⟩) (by assumption) ?_
      rotate_left
      · (intro w hSw; (try dsimp only at hSw); go_simp; try with_reducible rfl)
      try simp only [Act.put, List.getElem_toArray, List.getElem_cons_zero, List.getElem_cons_succ, List.setIfInBounds_toArray, List.set_cons_zero, List.set_cons_succ]
      refine wpAnyK_take (i := 6) (v := ?_) rfl (by kernel_rfl) (fun _ _ _ h => h) (Or.inl ⟨by rfl, ?_⟩) (by assumption) ?_
      rotate_left
      · (intro w hSw; (try dsimp only at hSw); go_simp; try with_reducible rfl)
      try simp only [Act.put, List.getElem_toArray, List.getElem_cons_zero, List.getElem_cons_succ, List.setIfInBounds_toArray, List.set_cons_zero, List.set_cons_succ]
      refine wpAnyK_take (i := 7) (v := ?_) rfl (by kernel_rfl) (fun _ _ _ h => h) (Or.inl ⟨by rfl, ?_⟩) (by assumption) ?_
      rotate_left
      · (intro w hSw; (try dsimp only at hSw); go_simp; try with_reducible rfl)
      try simp only [Act.put, List.getElem_toArray, List.getElem_cons_zero, List.getElem_cons_succ, List.setIfInBounds_toArray, List.set_cons_zero, List.set_cons_succ]
      refine wpAnyK_take (i := 8) (v := ?_) rfl (by kernel_rfl) (fun _ _ _ h => h) (Or.inl ⟨by rfl, ?_⟩) (by assumption) ?_
      rotate_left
      · (intro w hSw; (try dsimp only at hSw); go_simp; try with_reducible rfl)
      try simp only [Act.put, List.getElem_toArray, List.getElem_cons_zero, List.getElem_cons_succ, List.setIfInBounds_toArray, List.set_cons_zero, List.set_cons_succ]
      refine wpAnyK_take (i := 9) (v := ?_) rfl (by kernel_rfl) (fun _ _ _ h => h) (Or.inl ⟨by rfl, ?_⟩) (by assumption) ?_
      rotate_left
      · (intro w hSw; (try dsimp only at hSw); go_simp; try with_reducible rfl)
      try simp only [Act.put, List.getElem_toArray, List.getElem_cons_zero, List.getElem_cons_succ, List.setIfInBounds_toArray, List.set_cons_zero, List.set_cons_succ]
      refine wpAnyK_take (i := 10) (v := ?_) rfl (by kernel_rfl) (fun _ _ _ h => h) (Or.inl ⟨by rfl, ?_⟩) (by assumption) ?_
      rotate_left
      · (intro w hSw; (try dsimp only at hSw); go_simp; try with_reducible rfl)
      try simp only [Act.put, List.getElem_toArray, List.getElem_cons_zero, List.getElem_cons_succ, List.setIfInBounds_toArray, List.set_cons_zero, List.set_cons_succ]
      refine wpAnyK_take (i := 11) (v := ?_) rfl (by kernel_rfl) (fun _ _ _ h => h) (Or.inl ⟨by rfl, ?_⟩) (by assumption) ?_
      rotate_left
      · (intro w hSw; (try dsimp only at hSw); go_simp; try with_reducible rfl)
      try simp only [Act.put, List.getElem_toArray, List.getElem_cons_zero, List.getElem_cons_succ, List.setIfInBounds_toArray, List.set_cons_zero, List.set_cons_succ]
      refine wpAnyK_step (i := 12) rfl (by kernel_rfl) (fun K hK => ?_)
      go_simp
      refine hK.out _ _ ⟨(((Below.refl _ _).alloc (Nat.le_refl _) _).cell (p := ⟨u1.heap.size + 1, 0, none⟩) (lt_of_cell c0)).trans c0, (((Below.refl _ _).alloc (Nat.le_refl _) _).cell (p := ⟨g1, j, none⟩) (lt_of_cell hcj)).trans hcj⟩ (fun hHeld2 => ?_)
      clear hK K hHeld
      try simp only [Act.put, List.setIfInBounds_toArray, List.set_cons_zero, List.set_cons_succ]
      refine wpAnyK_done (by kernel_rfl) ?_
      simp only [List.drop_succ_cons, List.drop_zero]
      have HO7 : Hid ((w5.alloc (.cells #[.int .i64 (l + st)] 3)).drew.ownsRow u1.heap.size 3 1 (.slice (some ⟨g1, 0, none⟩) N cap1) N (zs.map (Value.int .i64))) := Lib.hid (QL.out.row.alloc _)
      have HN7 : Hid (∀ j u, [Value.int .i64 (l + st)][j]? = some u → (w5.alloc (.cells #[.int .i64 (l + st)] 3)).drew.cell? ((⟨w5.heap.size, 0, none⟩ : Addr).add j) = some u) := Lib.hid (World.news_of_block (cs := #[.int .i64 (l + st)]) (t := 3) (fr := (0, 0)) (heap_alloc_new w5 _))
      have Q7 := Lib.hid (QL.out.alloc (.cells #[.int .i64 (l + st)] 3)).drew
      clear hHeld2 c0 hcj
      generalize (w5.alloc (.cells #[.int .i64 (l + st)] 3)).drew = w7 at HO7 HN7 Q7 ⊢
      go_wp2_with (at_builtin; refine wpList_append_lies _ rfl _ _ 22 rfl u1.heap.size 3 i0 (.int .i64 0) 1 8 Try.underlying22 hi0 hz0 hz1 hz2 rfl (by decide) (.slice (some ⟨g1, 0, none⟩) N cap1) N (zs.map (Value.int .i64)) rfl HO7.out ⟨w5.heap.size, 0, none⟩ 1 1 [.int .i64 (l + st)] rfl rfl HN7.out ?l2 (by omega) ?l3 ?l4 ?l5 _ rfl ?_)
      case l2 => intro u hu; simp at hu; subst hu; rfl
      case l3 => unfold maxLen; omega
      case l4 => omega
      case l5 => have h1 := Q7.out.held.ap.size; omega
      intro g2 cap2 w8 hown1 hgrow hat hlt8
      have hat2 := hatOf hat
      have hbox8 := Q7.out.box.grownS hgrow Q7.out.gG
      have Q8 := Lib.hid (Q7.out.grow hown1 hgrow hat2)
      clear hown1 hgrow hat hat2 hlt8
      obtain ⟨d0, d1, d2, e0, e1, e2⟩ := hbox8
      go_wp2_with fail
      clear d0 d1 d2 e0 e1 e2
      refine (n_any 9 (by omega) (by omega) _ ra rn rc _ (Q8.out.held.at HS1.out)).mono ?_
      rintro e u9 ⟨r9, ⟨r90, r91⟩, rfl, hs9, he9⟩
      have Q9 := Lib.hid (Q8.out.call hs9 he9.apart)
      clear hs9 he9 Q8 Q7
      obtain ⟨⟨hx1, hx2⟩, hx3, hx4⟩ := HX.out
      have t9 : IntKind.i64.wrap (st - r9) = st - r9 := IntWalk.i64_in _ ⟨by omega, by omega⟩
      have t8 : IntKind.i64.wrap (k - 1) = k - 1 := IntWalk.i64_in _ ⟨by omega, by omega⟩
      by_cases hm : (0 : Int) < st - r9
      · have HG := Lib.hid (show Sink (zs ++ [l + st]) (st - r9) by
          have := hsink.out.grow (st2 := st - r9) (by omega) (by omega) (N := j) (by have := HL.out; omega)
          rwa [HL.out.1] at this)
        go_wp2_with fail
        go_roundw
        case rel => exact ⟨N + 1, g2, cap2, zs ++ [l + st], k - 1, st - r9, rfl, rfl, by omega, by omega, by omega, HG, Q9⟩
        case measure => simp [intOf]; omega
      · have HG := Lib.hid (show Sink (zs ++ [l + st]) 0 by
          have := hsink.out.grow (st2 := 0) (by omega) (by omega) (N := j) (by have := HL.out; omega)
          rwa [HL.out.1] at this)
        go_wp2_with fail
        go_roundw
        case rel => exact ⟨N + 1, g2, cap2, zs ++ [l + st], k - 1, 0, rfl, rfl, by omega, by omega, by omega, HG, Q9⟩
        case measure => simp [intOf]; omega
    · have hkm : k = -1 := by omega
      have hln := QL.out.len
      have hb0 := QL.out.box
      obtain ⟨a9, cap9, hv9, R9, X9⟩ := rowZ_of_owns QL.out.row (by omega) (fun m hm => by have := hsink.out.bd m hm; exact ⟨by omega, by omega⟩)
      obtain ⟨rfl, rfl⟩ : some ⟨g1, 0, none⟩ = a9 ∧ cap1 = cap9 := by cases hv9; exact ⟨rfl, rfl⟩
      have hgF := QL.out.gG
      have SK2 := Lib.hid (show Sink zs st ∧ zs.length ≤ 8 from ⟨hsink.out, by omega⟩)
      obtain ⟨w6, hw6⟩ : ∃ w', w5.setCell ⟨u1.heap.size + 1, 2, none⟩ (.int .i64 st) = w' := ⟨_, rfl⟩
      have Xf := Lib.hid (show Bx w6 (u1.heap.size + 1) (some ⟨g1, 0, none⟩) N cap1 1 st zs from by
        rw [← hw6]
        exact ⟨hb0.set2 _, R9.store (fun x hx _ => by cases hx; exact hgF) _ _⟩)
      have HB6 := Lib.hid (show Below W.heap.size W w6 from by
        rw [← hw6]
        have h := HB1.out.trans (QL.out.held.ap.below (Nat.le_refl _) HB1.out.size)
        exact h.setCell (p := ⟨u1.heap.size + 1, 2, none⟩) (by have := HB1.out.size; show W.heap.size ≤ u1.heap.size + 1; omega) _)
      have HW6 := Lib.hid hw6
      obtain ⟨d0, d1, d2, e0, e1, e2⟩ := hb0
      clear hw6 R9 X9 hv9 hgF hln
      go_upto_region 10 with fail
      try rw [HW6.out]
      clear d0 d1 d2 e0 e1 e2 HW6 QL
      have KG := Lib.hid (SK2.out.1.good (by have := SK2.out.2; omega))
      have KS := Lib.hid (conc_suba (SK2.out.1.fin (by have := SK2.out.2; omega)) (SK2.out.1.conc (by have := SK2.out.2; omega)))
      have K0 := Lib.hid (show eC zs 1 st 0 = some 0 from by
        rw [eC_fin (SK2.out.1.fin (by have := SK2.out.2; omega)), atC_lt (by have := SK2.out.1.one; omega), SK2.out.1.z0])
      obtain ⟨F, hF⟩ : ∃ F, u1.heap.size + 1 = F := ⟨_, rfl⟩
      rw [hF] at Xf
      try rw [hF]
      clear hF
      obtain ⟨c0, c1, c2, c3, c4, c5⟩ := Xf.out.box
      go_wp2_with fail
      clear c0 c1 c2 c3 c4 c5
      refine (normal_ok (some ⟨g1, 0, none⟩) N cap1 zs 1 st KG.out _ Xf.out.row).mono ?_
      rintro e v1 ⟨ah, nh, caph, zh, ph, jh, rfl, hb, hr, hnn, hx⟩
      obtain ⟨w7, hw⟩ : ∃ w', v1.alloc (.cells #[.slice ah nh caph, .int .i64 ph, .int .i64 jh] 24) = w' := ⟨_, rfl⟩
      have hz : Below w6.heap.size w6 w7 := by rw [← hw]; exact hb.trans ((below_box _).mono hb.size)
      have NN := Lib.hid hnn
      have KC := Lib.hid (keeps_can KG.out (by have := SK2.out.2; omega) KS.out K0.out hnn)
      have Yf := Lib.hid (Xf.out.under hz)
      have Yh := Lib.hid (show Bx w7 v1.heap.size ah nh caph ph jh zh by rw [← hw]; exact Bx.new hr)
      have HB7 := Lib.hid (HB6.out.trans (hz.mono HB6.out.size))
      have HW7 := Lib.hid hw
      clear hb hr hnn hx hz hw Xf HB6
      go_upto_region 11 with fail
      try rw [HW7.out]
      clear HW7
      obtain ⟨c0, c1, c2, c3, c4, c5⟩ := Yf.out.box
      go_wp2_with fail
      clear c0 c1 c2 c3 c4 c5
      refine (csub_ok (some ⟨g1, 0, none⟩) N cap1 zs 1 st KG.out true ⟨fun _ => KS.out, fun _ => rfl⟩ _ Yf.out.row).mono ?_
      rintro e w8 ⟨rfl, hb⟩
      have Zf := Lib.hid (Yf.out.under hb)
      have Zh := Lib.hid (Yh.out.under hb)
      have HB8 := Lib.hid (HB7.out.trans (hb.mono HB7.out.size))
      clear hb Yf Yh HB7
      obtain ⟨c0, c1, c2, c3, c4, c5⟩ := Zf.out.box
      go_wp2_with fail
      clear c0 c1 c2 c3 c4 c5
      refine (clof_any (some ⟨g1, 0, none⟩) N cap1 zs 1 st KG.out NN.out _ Zf.out.row).mono ?_
      rintro e v2 ⟨hb, ⟨ak, nk, capk, zk, pk, jk, rfl, hr, hf, _, _, hx⟩ | ⟨_, hno⟩⟩
      rotate_left
      · exact absurd KC.out.1 hno
      obtain ⟨w9, hw⟩ : ∃ w', v2.alloc (.cells #[.slice ak nk capk, .int .i64 pk, .int .i64 jk] 24) = w' := ⟨_, rfl⟩
      have hz : Below w8.heap.size w8 w9 := by rw [← hw]; exact hb.trans ((below_box _).mono hb.size)
      have OK := Lib.hid (show EForm zk pk jk (eC zs 1 st) from by rw [← KC.out.2.2]; exact hf)
      have Xh := Lib.hid (Zh.out.under hz)
      have Xk := Lib.hid (show Bx w9 v2.heap.size ak nk capk pk jk zk by rw [← hw]; exact Bx.new hr)
      have HB9 := Lib.hid (HB8.out.trans (hz.mono HB8.out.size))
      have HW9 := Lib.hid hw
      clear hb hr hf hx hz hw Zf Zh HB8
      go_upto_region 13 with fail
      try rw [HW9.out]
      clear HW9
      obtain ⟨c0, c1, c2, c3, c4, c5⟩ := Xk.out.box
      obtain ⟨d0, d1, d2, d3, d4, d5⟩ := Xh.out.box
      go_wp2_with fail
      clear c0 c1 c2 c3 c4 c5 d0 d1 d2 d3 d4 d5
      refine (same_at OK.out KC.out.2.1 _ Xk.out.row Xh.out.row).mono ?_
      rintro e w10 ⟨rfl, hb⟩
      have HBQ := Lib.hid (HB9.out.trans (hb.mono HB9.out.size))
      clear hb
      go_wp2_with fail
      refine (awake9 _).mono ?_
      rintro e y9 ⟨rfl, hb⟩
      have HBZ := Lib.hid (HBQ.out.trans (hb.mono HBQ.out.size))
      clear hb
      go_wp2_with fail
      go_ret
      exact ⟨rfl, HBZ.out⟩

end Go.Proofs.Ytcpfphlijeajiaa
