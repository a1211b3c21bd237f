/- The walk of LineForgets. By the verifier's side. -/
import Derived.Test.YtkienpbmoilheaaDLnV
import Derived.Deep.RegionHeld3
namespace Go.Proofs.Ytkienpbmoilheaa
open Go.RowKit
set_option linter.unusedSimpArgs false
set_option linter.unusedVariables false
theorem five_of {A B C D X : Prop} (h : A ∧ B ∧ C ∧ D ∧ Hid X) : X := h.2.2.2.2.out
set_option maxRecDepth 100000 in
set_option maxHeartbeats 6400000 in
theorem lineForgets_walk (W : World) (a : Option Addr) (n cap : Nat) (hrow : RowAt W a n cap) :
    Calls Try.prog 10 #[.slice a n cap] W fun e w' => e = .returned (.bool true) ∧ Below W.heap.size W w' := by
  have HR := Lib.hid hrow
  clear hrow
  go_enter Try.func10, Try.ntmps10
  go_wp2_with fail
  refine (new_any a n cap _ HR.out).mono ?_
  rintro e ww1 ⟨rfl, hb1, hz1', ra, rn, rc, hs1⟩
  have HB1 := Lib.hid hb1
  have HS1 := Lib.hid hs1
  have hbl : W.heap.size < ww1.heap.size := by omega
  clear hb1 hz1' hs1
  go_wp2_with fail
  refine (traffic14 12 (by omega) 3 40 (by decide) (by decide) _ ra rn rc _ HS1.out).mono ?_
  rintro e ww2 ⟨lp, a1, n1, c1, rfl, hdr, hs2, he2, hr2, hx2⟩
  have HD := Lib.hid hdr
  have HH2 := Lib.hid ((Hld13.start HS1.out).call hs2 he2)
  have P2 := Lib.hid hr2
  have X2 := Lib.hid (show ∀ x, a1 = some x → ¬ x.block = W.heap.size from fun x hx => by have := hx2 x hx; omega)
  have HLEN := Lib.hid hr2.len
  have hn12 : n1 ≤ 12 := by rw [← hr2.len]; exact hdr.len
  have HVC := Lib.hid (hdr.vcode (by omega) (by omega) (by omega))
  clear hdr hs2 he2 hr2 hx2
  go_wp2_with fail
  refine (n_any 20 (by omega) (by omega) _ ra rn rc _ (HH2.out.at HS1.out)).mono ?_
  rintro e ww3 ⟨z, ⟨hz0, hz1⟩, rfl, hs3, he3⟩
  have HH3 := Lib.hid (HH2.out.call hs3 he3.apart)
  have P3 := Lib.hid (pkR_apartZ P2.out he3.apart X2.out)
  clear hs3 he3 HH2 P2
  obtain ⟨C, hC⟩ : ∃ C, 1 + z = C := ⟨_, rfl⟩
  have hwz : IntKind.i64.wrap (1 + z) = C := by rw [hC]; exact IntWalk.i64_in _ ⟨by omega, by omega⟩
  have hC1 : 1 ≤ C := by omega
  have hC2 : C ≤ 20 := by omega
  clear hz0 hz1 hC
  go_wp2_with fail
  refine (n_any 40 (by omega) (by omega) _ ra rn rc _ (HH3.out.at HS1.out)).mono ?_
  rintro e ww4 ⟨y, ⟨hy0, hy1⟩, rfl, hs4, he4⟩
  have HH4 := Lib.hid (HH3.out.call hs4 he4.apart)
  have P4 := Lib.hid (pkR_apartZ P3.out he4.apart X2.out)
  clear hs4 he4 HH3 P3
  obtain ⟨ν, rfl⟩ : ∃ ν : Nat, y = (ν : Int) := ⟨y.toNat, by omega⟩
  have hν : ν < 40 := by omega
  clear hy0 hy1
  have HT0 := Lib.hid (trc_v HVC.out)
  have HRW := Lib.hid (And.intro hbl HH4.out.lt)
  have hr1 : Calls Try.prog 80 #[.int .i64 C, .int .i64 3, .slice a1 n1 c1, .int .i64 ν] ww4 fun e w' => ∃ v, e = .returned (.tuple #[v, .int .i64 0]) ∧ Below ww4.heap.size ww4 w' ∧ RunQ ww4.heap.size n1 3 (ν + 1) (lnDone C lp ν) (fun c t => sentF lp (c : Int) (lineS C lp t)) v w' :=
    lrun16_q a1 n1 c1 lp C 3 ν (ln_ok' HVC.out (drw_fl HD.out) hC1 (by omega) (by omega) (by omega)) ww4 P4.out
  have HR1 := Lib.hid hr1
  clear hr1
  go_wp2_with fail
  refine HR1.out.mono ?_
  rintro e ww5 ⟨v, rfl, hb5, hq5⟩
  have HH5 := Lib.hid (hldZ_below HH4.out hb5)
  have P5 := Lib.hid (P4.out.under hb5)
  have B5 := Lib.hid hb5
  have Q5 := Lib.hid hq5
  obtain ⟨D1, S1, Z1, rfl, l1, l2, l3, _⟩ := hq5
  clear hb5 l1 l2 l3
  go_upto_region 4 with fail
  obtain ⟨V6, hV6⟩ : ∃ V6, ww5.alloc (.cells #[.slice (some ⟨D1, 0, none⟩) n1 n1, .slice (some ⟨S1, 0, none⟩) 3 3] 91) = V6 := ⟨_, rfl⟩
  have hb6 : Below ww5.heap.size ww5 V6 := by rw [← hV6]; exact (Below.refl _ _).alloc (Nat.le_refl _) _
  have X6 := Lib.hid (show TwoR V6 ww5.heap.size (.slice (some ⟨D1, 0, none⟩) n1 n1) (.slice (some ⟨S1, 0, none⟩) 3 3) by rw [← hV6]; exact ⟨_, World.alloc_heap_new ww5 _⟩)
  have HH6 := Lib.hid (hldZ_below HH5.out hb6)
  have P6 := Lib.hid (P5.out.under hb6)
  have Q6 := Lib.hid (Q5.out.under hb6)
  have hb1w : W.heap.size < ww5.heap.size := HH5.out.lt
  rw [hV6]
  clear hV6 hb6 HH5 P5 Q5 HR1
  obtain ⟨b1, hb1⟩ : ∃ n, ww5.heap.size = n := ⟨_, rfl⟩
  rw [hb1] at X6 hb1w ⊢
  clear hb1
  have HO0 := Lib.hid (show OwnL V6 (.slice none 0 0) (earlyP (ν : Int) (lp.take 0)) V6 from by rw [List.take_zero]; exact OwnL.nil V6)
  go_wp2_with fail
  go_loopw [34, 9] (fun s34 s9 wx => ∃ k : Nat, s34 = .int .i64 k ∧ k ≤ n1 ∧ Hid (OwnL V6 s9 (earlyP (ν : Int) (lp.take k)) wx)) (fun s34 _ _ => n1 - (intOf s34).toNat)
  case atStart => exact ⟨0, by go_num, Nat.zero_le _, HO0⟩
  case round =>
    obtain ⟨k, rfl, hk, HO⟩ := hrel
    obtain ⟨wk, rfl⟩ : ∃ u : World, u = wr := ⟨_, rfl⟩
    obtain ⟨s9, rfl⟩ : ∃ u : Value, u = u9 := ⟨_, rfl⟩
    clear HO0
    by_cases hlt : k < n1
    · have hlI : (k : Int) < (n1 : Int) := by omega
      obtain ⟨B, off, q, ha, hcs, hq, hbd⟩ := (P6.out.under HO.out.2).at hlt
      obtain ⟨c0, c1', c2⟩ := hcs k q hq
      have HQ := Lib.hid (And.intro hq hbd)
      have hsl := early_len (ν : Int) lp k
      clear hcs hq hbd
      subst ha
      go_upto_region 8 with fail
      obtain ⟨u, hu⟩ : ∃ u : World, wk.alloc (.cells #[.int .i64 q.f, .int .i64 q.t, .int .i64 q.s] 103) = u := ⟨_, rfl⟩
      obtain ⟨hbu, n0, n1', n2⟩ := box_pk16 hu
      have HO2 := Lib.hid (show OwnL V6 s9 (earlyP (ν : Int) (lp.take k)) u from by rw [← hu]; exact HO.out.alloc _)
      rw [hu]
      clear hu hbu c0 c1' c2
      by_cases e2 : q.t < (ν : Int)
      · go_wp2_with (at_builtin; (refine wpList_append_pk rfl _ _ rfl V6.heap.size _ _ (earlyP (ν : Int) (lp.take k)) rfl (HO2.out.alloc _).1 (some ⟨u.heap.size, 0, none⟩) 1 1 [q] rfl (pkR_one u q HQ.out.2) (by omega) (HO2.out.alloc _).2.size ?_))
        intro v' w' ho' hb'
        have HN := Lib.hid (show OwnL V6 v' (earlyP (ν : Int) (lp.take (k + 1))) w' from by
          rw [early_snoc HQ.out.1, if_pos e2]
          exact (HO2.out.alloc _).push rfl ho' hb')
        clear ho' hb' n0 n1' n2
        go_wp2_with fail
        go_roundw
        case rel => exact ⟨k + 1, by go_num, by omega, HN⟩
        case measure => first | (simp [intOf]; done) | (simp [intOf]; omega)
      · have HN := Lib.hid (show OwnL V6 s9 (earlyP (ν : Int) (lp.take (k + 1))) u from by
          rw [early_snoc HQ.out.1, if_neg e2]; exact HO2.out)
        go_wp2_with fail
        go_roundw
        case rel => exact ⟨k + 1, by go_num, by omega, HN⟩
        case measure => first | (simp [intOf]; done) | (simp [intOf]; omega)
    · obtain rfl : k = n1 := by omega
      have hlI : ¬ (k : Int) < (k : Int) := by omega
      obtain ⟨m, hm, hE, hE1, hE2⟩ := early_take (n := (ν : Int)) lp HT0.out.asc
      have HE := Lib.hid (And.intro hE1 hE2)
      have hmk : m ≤ k := by have := HLEN.out; omega
      have HM := Lib.hid hm
      obtain ⟨aq, nq, cq, hs9, hbq, hpq, hxq⟩ : GivesOwn (lp.take m) V6 (.returned s9) wk := by
        have h := HO.out
        rw [show k = lp.length from HLEN.out.symm, List.take_length, hE] at h
        exact h.gives (by rw [List.length_take]; omega) (fun q hq => P6.out.bd q (List.mem_of_mem_take hq))
      obtain rfl : s9 = .slice aq nq cq := by cases hs9; rfl
      obtain rfl : nq = m := by rw [← hpq.len, List.length_take]; have := HLEN.out; omega
      have PQ := Lib.hid hpq
      have HXQ := Lib.hid (show ∀ x, aq = some x → ¬ x.block = W.heap.size from fun x hx => by have := hxq x hx; have := HH6.out.lt; omega)
      have HH7 := Lib.hid (hldZ_below HH6.out hbq)
      have P7 := Lib.hid (P6.out.under hbq)
      have Q7 := Lib.hid (Q6.out.under hbq)
      have X7 := Lib.hid (X6.out.under hbq)
      clear hm hE hE1 hE2 hs9 hbq hpq hxq HO HH6 P6 Q6 X6
      go_wp2_with fail
      refine (n_any 20 (by omega) (by omega) _ ra rn rc _ (HH7.out.at HS1.out)).mono ?_
      rintro e ww8 ⟨μ0, ⟨hμ0, hμ1⟩, rfl, hs8, he8⟩
      obtain ⟨μ, rfl⟩ : ∃ μ : Nat, μ0 = (μ : Int) := ⟨μ0.toNat, by omega⟩
      have HH8 := Lib.hid (HH7.out.call hs8 he8.apart)
      have P8 := Lib.hid (And.intro (pkR_apartZ P7.out he8.apart X2.out) (pkR_apartZ PQ.out he8.apart HXQ.out))
      have Q8 := Lib.hid (Q7.out.apart HRW.out.2 he8.apart)
      have X8 := Lib.hid (X7.out.of_block (he8.apart.block b1 X7.out.lt (by omega)))
      clear hs8 he8 P7 Q7 X7 PQ HH7
      obtain ⟨T2, hT2⟩ : ∃ T2 : Nat, ν + μ = T2 := ⟨_, rfl⟩
      have hwT : IntKind.i64.wrap ((ν : Int) + (μ : Int)) = (T2 : Int) := by rw [show (ν : Int) + (μ : Int) = (T2 : Int) by omega]; exact IntWalk.i64_in _ ⟨by omega, by omega⟩
      have HT2 := Lib.hid hT2
      have hT2b : T2 ≤ 60 := by omega
      clear hT2 hμ0 hμ1
      have HTQ := Lib.hid (trc_take HT0.out nq)
      have HVQ := Lib.hid (show vcode (lp.take nq) = 0 from by
        obtain ⟨h1, h2, h3⟩ := vcode_ok HVC.out
        exact vcode_of (by rw [List.length_take]; omega) (fun q hq => h2 q (List.mem_of_mem_take hq)) (List.Pairwise.sublist (List.take_sublist _ _) h3))
      have HFQ := Lib.hid (show ∀ i, i < (lp.take nq).length → ((lp.take nq).getD i default).f < 3 from fun i hi => by
        rw [List.length_take] at hi
        rw [getD_takeP (by omega)]; exact drw_fl HD.out i (by omega))
      have hr2 : Calls Try.prog 80 #[.int .i64 C, .int .i64 3, .slice aq nq cq, .int .i64 T2] ww8 fun e w' => ∃ v, e = .returned (.tuple #[v, .int .i64 0]) ∧ Below ww8.heap.size ww8 w' ∧ RunR w' v nq 3 (T2 + 1) (lnDone C (lp.take nq) T2) (fun c t => sentF (lp.take nq) (c : Int) (lineS C (lp.take nq) t)) :=
        lrun16_r aq nq cq (lp.take nq) C 3 T2 (ln_ok' HVQ.out HFQ.out hC1 (by omega) (by omega) (by omega)) ww8 P8.out.2
      have HR2 := Lib.hid hr2
      clear hr2
      go_wp2_with fail
      refine HR2.out.mono ?_
      rintro e ww9 ⟨v, rfl, hb9, hr9⟩
      obtain ⟨N2, hN2⟩ : ∃ N, T2 + 1 = N := ⟨_, rfl⟩
      obtain ⟨N1, hN1⟩ : ∃ N, ν + 1 = N := ⟨_, rfl⟩
      rw [hN2] at hr9
      have HFIN := Lib.hid (show ∀ wx, Below ww9.heap.size ww9 wx → Below W.heap.size W wx from fun wx hx => HB1.out.trans ((hldZ_below HH8.out (hb9.trans (hx.mono hb9.size))).ap.below (Nat.le_refl _) HB1.out.size))
      have R9 := Lib.hid (show RunR ww9 (.agg #[.slice (some ⟨D1, 0, none⟩) k k, .slice (some ⟨S1, 0, none⟩) 3 3]) k 3 N1 (lnDone C lp ν) (fun c t => sentF lp (c : Int) (lineS C lp t)) ∧ RunR ww9 v nq 3 N2 (lnDone C (lp.take nq) T2) (fun c t => sentF (lp.take nq) (c : Int) (lineS C (lp.take nq) t)) from
        ⟨by rw [← hN1]; exact (Q8.out.under hb9).readL HT0.out (by omega) (by omega) (by omega), hr9⟩)
      have X9 := Lib.hid (X8.out.under hb9)
      obtain ⟨d1', e1', S1', o1, hv1, hd1, hs1'⟩ := R9.out.1.ex
      obtain ⟨d2, e2, S2, o2, rfl, hd2, hs2'⟩ := R9.out.2.ex
      obtain ⟨rfl, rfl, rfl, rfl⟩ : some ⟨D1, 0, none⟩ = d1' ∧ k = e1' ∧ S1 = S1' ∧ 0 = o1 := by
        simp only [Value.agg.injEq] at hv1
        simp at hv1
        obtain ⟨⟨h1, h2⟩, h3, h4⟩ := hv1
        exact ⟨h1, h2, h3, h4⟩
      have D9 := Lib.hid (And.intro (And.intro hd1 hs1') (And.intro hd2 hs2'))
      clear hb9 hr9 hd1 hs1' hd2 hs2' hv1 HH8 P8 Q8 X8 HR2
      go_upto_region 12 with fail
      obtain ⟨V9, hV9⟩ : ∃ V9, ww9.alloc (.cells #[.slice d2 nq e2, .slice (some ⟨S2, o2, none⟩) 3 3] 91) = V9 := ⟨_, rfl⟩
      have hb9 : Below ww9.heap.size ww9 V9 := by rw [← hV9]; exact (Below.refl _ _).alloc (Nat.le_refl _) _
      have XX := Lib.hid (And.intro (X9.out.under hb9) (show TwoR V9 ww9.heap.size (.slice d2 nq e2) (.slice (some ⟨S2, o2, none⟩) 3 3) by rw [← hV9]; exact ⟨_, World.alloc_heap_new ww9 _⟩))
      have B9 := Lib.hid hb9
      have RR := Lib.hid (R9.out.1.under hb9)
      have DA := Lib.hid (show RowZ V9 (some ⟨D1, 0, none⟩) k k (valsF (lnDone C lp ν) k) ∧ RowZ V9 d2 nq e2 (valsF (lnDone C (lp.take nq) T2) nq) from ⟨D9.out.1.1.under hb9, D9.out.2.1.under hb9⟩)
      have SA := Lib.hid (show (∀ c, c < 3 → ∃ x k, V9.cell? ⟨S1, 0 + c, none⟩ = some (.slice x N1 k) ∧ RowZ V9 x N1 k (valsF (fun t => sentF lp (c : Int) (lineS C lp t)) N1)) ∧ ∀ c, c < 3 → ∃ B o k, V9.cell? ⟨S2, o2 + c, none⟩ = some (.slice (some ⟨B, o, none⟩) N2 k) ∧ RowZ V9 (some ⟨B, o, none⟩) N2 k (valsF (fun t => sentF (lp.take nq) (c : Int) (lineS C (lp.take nq) t)) N2) from
        ⟨fun c hc => by obtain ⟨x, k, g1, g2, _⟩ := D9.out.1.2 c hc; exact ⟨x, k, (hb9.cell (lt_of_cell g1)).trans g1, g2.under hb9⟩,
         fun c hc => by obtain ⟨x, k, g1, g2, B, o, rfl⟩ := D9.out.2.2 c hc; exact ⟨B, o, k, (hb9.cell (lt_of_cell g1)).trans g1, g2.under hb9⟩⟩)
      rw [hV9]
      clear hV9 hb9
      obtain ⟨b2, hb2⟩ : ∃ n, ww9.heap.size = n := ⟨_, rfl⟩
      have hb2' := Lib.hid hb2
      rw [hb2] at XX ⊢
      clear hb2 D9 X9 R9
      have HNN := Lib.hid (And.intro hN1 hN2)
      have hN1e : (ν : Int) + 1 = (N1 : Int) := by omega
      clear hN1 hN2
      obtain ⟨q0, q1, q2, q3⟩ := run_boxes XX.out (Below.refl _ _)
      have hso1 : Calls Try.prog 87 #[.slice a1 k c1, .agg #[.slice (some ⟨D1, 0, none⟩) k k, .slice (some ⟨S1, 0, none⟩) 3 3], .int .i64 3, .int .i64 ν] V9 (Says (.bool true) V9) :=
        sound16 a1 k c1 _ 3 N1 _ _ (ν : Int) hN1e V9 RR.out
      have HSO1 := Lib.hid hso1
      clear hso1 hN1e
      go_wp2_with fail
      refine HSO1.out.mono ?_
      rintro e u1 ⟨rfl, hb10⟩
      clear q0 q1 q2 q3
      obtain ⟨q0, q1, q2, q3⟩ := run_boxes XX.out hb10
      have BU := Lib.hid hb10
      clear hb10
      go_wp2_with fail
      clear q0 q1 q2 q3
      go_loopw [14] (fun vi wx => ∃ k : Nat, vi = .int .i64 k ∧ k ≤ 3 ∧ Hid (Below V9.heap.size V9 wx)) (fun vi _ => 3 - (intOf vi).toNat)
      case atStart => exact ⟨0, by go_num, Nat.zero_le _, BU⟩
      case round =>
        obtain ⟨kk, rfl, hkk, HK⟩ := hrel
        obtain ⟨wk, rfl⟩ : ∃ u : World, u = wr := ⟨_, rfl⟩
        clear BU
        by_cases hlt3 : kk < 3
        · have hlI3 : (kk : Int) < 3 := by omega
          obtain ⟨x1, k1, g1, hz1⟩ := SA.out.1 kk hlt3
          rw [Nat.zero_add] at g1
          obtain ⟨B2, f2, k2, g2, hz2⟩ := SA.out.2 kk hlt3
          have HZ := Lib.hid (And.intro hz1 hz2)
          have KQ := Lib.hid (show ∀ u, Below V9.heap.size V9 u → (u.cell? ⟨b2, 1, none⟩ = some (.slice (some ⟨S2, o2, none⟩) 3 3) ∧ u.cell? ⟨b1, 1, none⟩ = some (.slice (some ⟨S1, 0, none⟩) 3 3) ∧ u.cell? ⟨S1, kk, none⟩ = some (.slice x1 N1 k1) ∧ u.cell? ⟨S2, o2 + kk, none⟩ = some (.slice (some ⟨B2, f2, none⟩) N2 k2) ∧ Hid (Below V9.heap.size V9 u)) from fun u hbk =>
            ⟨(run_boxes XX.out hbk).2.2.2, (run_boxes XX.out hbk).2.1, (hbk.cell (lt_of_cell g1)).trans g1, (hbk.cell (lt_of_cell g2)).trans g2, Lib.hid hbk⟩)
          have HK0 := Lib.hid (KQ.out wk.drew (HK.out.trans (((Below.refl _ _).drew : Below wk.heap.size wk wk.drew).mono HK.out.size)))
          have hcl := hz2.le
          have hcm := hz2.cm
          have hνN : ν + 1 ≤ N2 := by have := HNN.out; have := HT2.out; omega
          have hle : ¬ (N2 : Int) ≤ (ν : Int) := by omega
          have hwn : IntKind.i64.wrap ((ν : Int) + 1) = (ν : Int) + 1 := IntWalk.i64_in _ ⟨by omega, by omega⟩
          have hn0 : 0 ≤ (ν : Int) + 1 := by omega
          have hn1' : (ν : Int) + 1 ≤ (k2 : Int) := by omega
          have hnn : ((ν : Int) + 1).toNat = ν + 1 := by omega
          have HSAME := Lib.hid (show (valsF (fun t => sentF (lp.take nq) (kk : Int) (lineS C (lp.take nq) t)) N2).take (ν + 1) = valsF (fun t => sentF lp (kk : Int) (lineS C lp t)) N1 from by
            rw [← HNN.out.1]
            exact valsF_take _ _ hνN (fun j hj => by
              have h1 := lineS_take (C := C) HM.out (n := ν) HE.out.2 j (by omega)
              have h2 := early_bd (C := C) HT0.out HM.out HE.out.2 (t := j) (by omega)
              (try dsimp only)
              rw [h1, sent_take HM.out HT0.out.nn h2]))
          have HINT := Lib.hid (show ∀ u, Below V9.heap.size V9 u → Calls Try.prog 72 #[.slice (some ⟨B2, f2, none⟩) (ν + 1) k2, .slice x1 N1 k1] u (fun e w' => e = .returned (.bool true) ∧ Hid (Below V9.heap.size V9 w')) from fun u hu =>
            (rints5_any (some ⟨B2, f2, none⟩) (ν + 1) k2 _ x1 N1 k1 _ true (decide_eq_true HSAME.out) u ((HZ.out.2.under hu).take16 hνN) (HZ.out.1.under hu)).mono (by
              rintro e w' ⟨rfl, m, rfl⟩
              exact ⟨rfl, Lib.hid (hu.drewN m)⟩))
          clear hz1 hz2 g1 g2
          go_upto_region 17 with fail
          go_region_held3 (fun u => u.cell? ⟨b2, 1, none⟩ = some (.slice (some ⟨S2, o2, none⟩) 3 3) ∧ u.cell? ⟨b1, 1, none⟩ = some (.slice (some ⟨S1, 0, none⟩) 3 3) ∧ u.cell? ⟨S1, kk, none⟩ = some (.slice x1 N1 k1) ∧ u.cell? ⟨S2, o2 + kk, none⟩ = some (.slice (some ⟨B2, f2, none⟩) N2 k2) ∧ Hid (Below V9.heap.size V9 u))
            (first | with_reducible exact HK0.out | with_reducible exact KQ.out _ hb31.out | with_reducible exact KQ.out _ (five_of (by assumption)).drew)
            (first | (go_at_call 72; ((with_reducible refine (HINT.out _ (five_of (by assumption))).mono ?_); rintro e w31 ⟨rfl, hb31⟩; have HEND := Lib.hid hb31.out)))
          go_wp2_with fail
          go_roundw
          case rel => exact ⟨kk + 1, by go_num, by omega, HEND⟩
          case measure => first | (simp [intOf]; done) | (simp [intOf]; omega)
        · obtain rfl : kk = 3 := by omega
          have hlI3 : ¬ ((3 : Nat) : Int) < 3 := by omega
          go_wp2_with fail
          go_loopw [115] (fun vi wx => ∃ i : Nat, vi = .int .i64 i ∧ i ≤ k ∧ Hid (Below V9.heap.size V9 wx)) (fun vi _ => k - (intOf vi).toNat)
          case atStart => exact ⟨0, by go_num, Nat.zero_le _, HK⟩
          case round =>
            obtain ⟨i, rfl, hi, HI⟩ := hrel
            obtain ⟨wi, rfl⟩ : ∃ u : World, u = wr := ⟨_, rfl⟩
            clear HK
            by_cases hlt : i < k
            · have hlI : (i : Int) < (k : Int) := by omega
              obtain ⟨q0, _, q2, _⟩ := run_boxes XX.out HI.out
              obtain ⟨y1, z1, hy1, hc1, _, hz1, hzb1⟩ := row_get16 (DA.out.1.under HI.out) hlt
              rw [valsF_at _ hlt] at hz1
              cases hy1
              rw [WideShapes.add_plain, Nat.zero_add] at hc1
              have hil : i < lp.length := by have := HLEN.out; omega
              by_cases him : nq ≤ i
              · have hm1 : (i : Int) ≥ (nq : Int) := by omega
                have hm2 : ¬ (i : Int) < (nq : Int) := by omega
                have he := done_none HT0.out (show 0 ≤ C by omega) HE.out.2 him hil
                rw [hz1] at he
                subst he
                clear hz1 hzb1
                go_upto_region 22 with fail
                go_quiet (fail)
                go_wp2_with fail
                go_roundw
                case rel => exact ⟨i + 1, by go_num, by omega, Lib.hid (HI.out.drewN _)⟩
                case measure => first | (simp [intOf]; done) | (simp [intOf]; omega)
              · have hm1 : ¬ (i : Int) ≥ (nq : Int) := by omega
                have hm2 : (i : Int) < (nq : Int) := by omega
                have hmi : i < nq := by omega
                obtain ⟨y2, z2, hy2, hc2, _, hz2, hzb2⟩ := row_get16 (DA.out.2.under HI.out) hmi
                rw [valsF_at _ hmi] at hz2
                have hde := done_early HT0.out (show 0 ≤ C by omega) HM.out HE.out.2 hmi μ
                rw [HT2.out, hz1, hz2] at hde
                clear hz1 hz2 hzb1 hzb2 him
                subst hy2
                by_cases h1 : 0 ≤ z1
                · have he := hde (.inl h1)
                  subst he
                  have hg : z1 ≥ 0 := h1
                  have hbb : (z1 != z1) = false := by simp
                  clear hde
                  go_upto_region 22 with fail
                  go_quiet (fail)
                  go_wp2_with fail
                  go_roundw
                  case rel => exact ⟨i + 1, by go_num, by omega, Lib.hid (HI.out.drewN _)⟩
                  case measure => first | (simp [intOf]; done) | (simp [intOf]; omega)
                · have hg : ¬ z1 ≥ 0 := h1
                  by_cases h2 : 0 ≤ z2
                  · have hg2 : z2 ≥ 0 := h2
                    have hg3 : ¬ z2 < (ν : Int) := fun h3 => by have := hde (.inr ⟨h2, h3⟩); omega
                    clear hde
                    go_upto_region 22 with fail
                    go_quiet (fail)
                    go_wp2_with fail
                    go_roundw
                    case rel => exact ⟨i + 1, by go_num, by omega, Lib.hid (HI.out.drewN _)⟩
                    case measure => first | (simp [intOf]; done) | (simp [intOf]; omega)
                  · have hg2 : ¬ z2 ≥ 0 := h2
                    clear hde
                    go_upto_region 22 with fail
                    go_quiet (fail)
                    go_wp2_with fail
                    go_roundw
                    case rel => exact ⟨i + 1, by go_num, by omega, Lib.hid (HI.out.drewN _)⟩
                    case measure => first | (simp [intOf]; done) | (simp [intOf]; omega)
            · obtain rfl : i = k := by omega
              have hlI : ¬ (i : Int) < (i : Int) := by omega
              go_wp2_with fail
              refine (awake16 _).mono ?_
              rintro e w6 ⟨rfl, hb6⟩
              have HEND := Lib.hid (HFIN.out _ (B9.out.trans ((HI.out.trans (hb6.mono HI.out.size)).mono B9.out.size)))
              clear hb6
              go_wp2_with fail
              go_ret
              exact ⟨rfl, HEND.out⟩
end Go.Proofs.Ytkienpbmoilheaa
