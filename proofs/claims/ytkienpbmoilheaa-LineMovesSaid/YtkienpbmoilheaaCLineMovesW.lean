/- The walk of LineMoves. By the verifier's side. -/
import Derived.Test.YtkienpbmoilheaaCLnKLnL
import Derived.Test.YtkienpbmoilheaaCLnMLnS
import Derived.Test.YtkienpbmoilheaaCCfUCfZ
import Derived.Test.YtkienpbmoilheaaCRTrE
namespace Go.Proofs.Ytkienpbmoilheaa
open Go.RowKit
set_option linter.unusedSimpArgs false
set_option linter.unusedVariables false
theorem ln_ok' {lp : List Pk} (hv : vcode lp = 0) (hf : ∀ i, i < lp.length → (lp.getD i default).f < 3) {C : Int} (h1 : 1 ≤ C) (h2 : C ≤ 4000) {T : Int} (h3 : 0 ≤ T) (h4 : T ≤ 2000) : lnCode C 3 T lp = 0 := by
  unfold lnCode
  rw [if_pos hv, if_neg]
  rintro (h | h | h | h | h | h | ⟨i, hi, h⟩)
  all_goals first | omega | skip
  have := hf i hi
  omega
theorem drw_fl {lp : List Pk} {N : Nat} {M : Int} (hD : DrwF N 3 M lp) : ∀ i, i < lp.length → (lp.getD i default).f < 3 := fun i hi => by
  have := hD.ok (lp.getD i default) (by rw [List.getD_eq_getElem?_getD, List.getElem?_eq_getElem hi]; exact List.getElem_mem _)
  omega
/-- A list's end. -/
theorem RowZ.drop16 {w : World} {B o n cap : Nat} {zs : List Int} (h : RowZ w (some ⟨B, o, none⟩) n cap zs) {d : Nat} (hd : d ≤ n) : RowZ w (some ⟨B, o + d, none⟩) (n - d) (cap - d) (zs.drop d) := by
  have h1 := h.len
  have h2 := h.le
  have h3 := h.sm
  have h4 := h.cm
  have hg : ∀ i, (zs.drop d).getD i 0 = zs.getD (d + i) 0 := fun i => by rw [List.getD_eq_getElem?_getD, List.getD_eq_getElem?_getD, List.getElem?_drop]
  refine ⟨by rw [List.length_drop]; omega, by omega, by omega, by omega, fun i hi => ⟨_, rfl, ?_⟩, fun i hi => by rw [hg]; exact h.bd _ (by omega)⟩
  obtain ⟨x, hx, hc⟩ := h.cell (d + i) (by omega)
  cases hx
  rw [WideShapes.add_plain] at hc ⊢
  rw [hg, Nat.add_assoc]; exact hc
theorem valsF_drop (F G : Nat → Int) {N d n : Nat} (hN : N = d + n) (h : ∀ k, k < n → F (d + k) = G k) : (valsF F N).drop d = valsF G n := by
  refine List.ext_getElem? fun i => ?_
  rw [List.getElem?_drop]
  unfold valsF
  rw [List.getElem?_map, List.getElem?_map]
  by_cases c : i < n
  · rw [List.getElem?_range (by omega), List.getElem?_range c]
    show some (F (d + i)) = some (G i)
    rw [h i c]
  · rw [List.getElem?_eq_none (by simp; omega), List.getElem?_eq_none (by simp; omega)]; rfl
theorem run_boxes {w : World} {B1 B2 : Nat} {x1 y1 x2 y2 : Value} (h : TwoR w B1 x1 y1 ∧ TwoR w B2 x2 y2) {v : World} (hb : Below w.heap.size w v) : v.cell? ⟨B1, 0, none⟩ = some x1 ∧ v.cell? ⟨B1, 1, none⟩ = some y1 ∧ v.cell? ⟨B2, 0, none⟩ = some x2 ∧ v.cell? ⟨B2, 1, none⟩ = some y2 := by
  obtain ⟨a, b⟩ := (h.1.under hb).cells
  obtain ⟨c, d⟩ := (h.2.under hb).cells
  exact ⟨a, b, c, d⟩
set_option maxRecDepth 100000 in
set_option maxHeartbeats 6400000 in
theorem lineMoves_walk (W : World) (a : Option Addr) (n cap : Nat) (hrow : RowAt W a n cap) :
    Calls Try.prog 12 #[.slice a n cap] W fun e w' => e = .returned (.bool true) ∧ Below W.heap.size W w' := by
  have HR := Lib.hid hrow
  clear hrow
  go_enter Try.func12, Try.ntmps12
  go_wp2_with fail
  refine (new_any a n cap _ HR.out).mono ?_
  rintro e ww1 ⟨rfl, hb1, hz1', ra, rn, rc, hs1⟩
  have HB1 := Lib.hid hb1
  have HS1 := Lib.hid hs1
  have hbl : W.heap.size < ww1.heap.size := by omega
  clear hb1 hz1' hs1
  go_wp2_with fail
  refine (traffic14 12 (by omega) 3 40 (by decide) (by decide) _ ra rn rc _ HS1.out).mono ?_
  rintro e ww2 ⟨lp, a1, n1, c1, rfl, hdr, hs2, he2, hr2, hx2⟩
  have HD := Lib.hid hdr
  have HH2 := Lib.hid ((Hld13.start HS1.out).call hs2 he2)
  have P2 := Lib.hid hr2
  have X2 := Lib.hid (show ∀ x, a1 = some x → ¬ x.block = W.heap.size from fun x hx => by have := hx2 x hx; omega)
  have HLEN := Lib.hid hr2.len
  have hn12 : n1 ≤ 12 := by rw [← hr2.len]; exact hdr.len
  have HVC := Lib.hid (hdr.vcode (by omega) (by omega) (by omega))
  clear hdr hs2 he2 hr2 hx2
  go_wp2_with fail
  refine (n_any 30 (by omega) (by omega) _ ra rn rc _ (HH2.out.at HS1.out)).mono ?_
  rintro e ww3 ⟨z, ⟨hz0, hz1⟩, rfl, hs3, he3⟩
  have HH3 := Lib.hid (HH2.out.call hs3 he3.apart)
  have P3 := Lib.hid (pkR_apartZ P2.out he3.apart X2.out)
  clear hs3 he3 HH2 P2
  obtain ⟨C, hC⟩ : ∃ C, 1 + z = C := ⟨_, rfl⟩
  have hwz : IntKind.i64.wrap (1 + z) = C := by rw [hC]; exact IntWalk.i64_in _ ⟨by omega, by omega⟩
  have hC1 : 1 ≤ C := by omega
  have hC2 : C ≤ 30 := by omega
  clear hz0 hz1 hC
  go_wp2_with fail
  refine (n_any 30 (by omega) (by omega) _ ra rn rc _ (HH3.out.at HS1.out)).mono ?_
  rintro e ww4 ⟨y, ⟨hy0, hy1⟩, rfl, hs4, he4⟩
  have HH4 := Lib.hid (HH3.out.call hs4 he4.apart)
  have P4 := Lib.hid (pkR_apartZ P3.out he4.apart X2.out)
  clear hs4 he4 HH3 P3
  have HFIN := Lib.hid (show ∀ wx, Below ww4.heap.size ww4 wx → Below W.heap.size W wx from fun wx hx => HB1.out.trans ((hldZ_below HH4.out hx).ap.below (Nat.le_refl _) HB1.out.size))
  obtain ⟨ν, rfl⟩ : ∃ ν : Nat, y = (ν : Int) := ⟨y.toNat, by omega⟩
  have hν : ν < 30 := by omega
  have HLC := Lib.hid (show lcode (ν : Int) lp = 0 ∧ laterL (ν : Int) lp = lp.map (lateP (ν : Int)) from by
    rcases later_ways (ν : Int) lp with ⟨x, hx, hx0, _, _⟩ | ⟨_, h, _, _⟩ | ⟨_, _, _, ⟨q, hq, hqd, _⟩, _, _⟩ | ⟨_, _, _, _, e1, e2⟩
    · exact absurd (hx.symm.trans HVC.out) hx0
    · omega
    · have h1 := HD.out.ok q (List.mem_of_getElem? hq)
      omega
    · exact ⟨e1, e2⟩)
  have HT0 := Lib.hid (trc_v HVC.out)
  have HTM := Lib.hid (show ∀ i, i < lp.length → (lp.getD i default).t + (ν : Int) ≤ 2000 from fun i hi => by
    have := HD.out.ok (lp.getD i default) (by rw [List.getD_eq_getElem?_getD, List.getElem?_eq_getElem hi]; exact List.getElem_mem _)
    omega)
  have HT1 := Lib.hid (trc_late HT0.out (show 0 ≤ (ν : Int) by omega) HTM.out)
  obtain ⟨lq, hlq⟩ : ∃ lq, lp.map (lateP (ν : Int)) = lq := ⟨_, rfl⟩
  have HLQ := Lib.hid hlq
  have HVQ := Lib.hid (show vcode lq = 0 from by
    have h := HT1.out
    rw [hlq] at h
    refine vcode_of h.len (fun q hq => ?_) h.asc
    obtain ⟨i, hi, rfl⟩ := List.mem_iff_getElem.1 hq
    have e : lq.getD i default = lq[i] := by rw [List.getD_eq_getElem?_getD, List.getElem?_eq_getElem hi]; rfl
    have h1 := h.sz i hi
    have h2 := h.tm i hi
    have h3 := h.fl i hi
    unfold szI at h1
    rw [e] at h1 h2 h3
    exact (okP_iff _).2 (by omega))
  have HFQ := Lib.hid (show ∀ i, i < lq.length → (lq.getD i default).f < 3 from fun i hi => by
    rw [← hlq] at hi ⊢
    have hi' : i < lp.length := by simpa using hi
    rw [getD_mapP _ _ hi']; exact drw_fl HD.out i hi')
  clear hlq
  go_wp2_with fail
  refine (rlater13 a1 n1 c1 lp (ν : Int) _ P4.out).mono ?_
  rintro e ww5 ⟨a5, n5, c5, rfl, hb5, hr5⟩
  rw [HLC.out.1]
  rw [HLC.out.2, HLQ.out] at hr5
  have B5 := Lib.hid hb5
  have P5 := Lib.hid (And.intro (P4.out.under hb5) hr5)
  obtain rfl : n5 = n1 := by rw [← hr5.len, ← HLEN.out, ← HLQ.out, List.length_map]
  clear hb5 hr5
  obtain ⟨T2, hT2⟩ : ∃ T2 : Nat, 90 + ν = T2 := ⟨_, rfl⟩
  have hwT : IntKind.i64.wrap (90 + (ν : Int)) = (T2 : Int) := by rw [show 90 + (ν : Int) = (T2 : Int) by omega]; exact IntWalk.i64_in _ ⟨by omega, by omega⟩
  have HT2 := Lib.hid hT2
  have hT2b : T2 ≤ 120 := by omega
  clear hT2
  have hr1 : Calls Try.prog 80 #[.int .i64 C, .int .i64 3, .slice a1 n5 c1, .int .i64 90] ww5 fun e w' => ∃ v, e = .returned (.tuple #[v, .int .i64 0]) ∧ Below ww5.heap.size ww5 w' ∧ RunR w' v n5 3 91 (lnDone C lp 90) (fun c t => sentF lp (c : Int) (lineS C lp t)) :=
    lrun16_r a1 n5 c1 lp C 3 90 (ln_ok' HVC.out (drw_fl HD.out) hC1 (by omega) (by omega) (by omega)) ww5 P5.out.1
  have HR1 := Lib.hid hr1
  clear hr1
  go_wp2_with fail
  refine HR1.out.mono ?_
  rintro e ww6 ⟨v, rfl, hb6, hr6⟩
  have B6 := Lib.hid (B5.out.trans (hb6.mono B5.out.size))
  have P6 := Lib.hid (P5.out.2.under hb6)
  have R6 := Lib.hid hr6
  obtain ⟨d1, e1, S1, o1, rfl, hd6, hs6⟩ := hr6.ex
  have D6 := Lib.hid (And.intro hd6 hs6)
  clear hb6 hr6 hd6 hs6
  go_upto_region 5 with fail
  obtain ⟨V6, hV6⟩ : ∃ V6, ww6.alloc (.cells #[.slice d1 n5 e1, .slice (some ⟨S1, o1, none⟩) 3 3] 91) = V6 := ⟨_, rfl⟩
  have hb6 : Below ww6.heap.size ww6 V6 := by rw [← hV6]; exact (Below.refl _ _).alloc (Nat.le_refl _) _
  have X6 := Lib.hid (show TwoR V6 ww6.heap.size (.slice d1 n5 e1) (.slice (some ⟨S1, o1, none⟩) 3 3) by rw [← hV6]; exact ⟨_, World.alloc_heap_new ww6 _⟩)
  have B7 := Lib.hid (B6.out.trans (hb6.mono B6.out.size))
  have BV6 := Lib.hid hb6
  have P7 := Lib.hid (P6.out.under hb6)
  rw [hV6]
  clear hV6 hb6
  obtain ⟨b1, hb1⟩ : ∃ n, ww6.heap.size = n := ⟨_, rfl⟩
  rw [hb1] at X6 ⊢
  clear hb1
  have hr2 : Calls Try.prog 80 #[.int .i64 C, .int .i64 3, .slice a5 n5 c5, .int .i64 T2] V6 fun e w' => ∃ v, e = .returned (.tuple #[v, .int .i64 0]) ∧ Below V6.heap.size V6 w' ∧ RunR w' v n5 3 (T2 + 1) (lnDone C lq T2) (fun c t => sentF lq (c : Int) (lineS C lq t)) :=
    lrun16_r a5 n5 c5 lq C 3 T2 (ln_ok' HVQ.out HFQ.out hC1 (by omega) (by omega) (by omega)) V6 P7.out
  have HR2 := Lib.hid hr2
  clear hr2
  go_wp2_with fail
  refine HR2.out.mono ?_
  rintro e ww8 ⟨v, rfl, hb8, hr8⟩
  obtain ⟨N2, hN2⟩ : ∃ N, T2 + 1 = N := ⟨_, rfl⟩
  rw [hN2] at hr8
  have B8 := Lib.hid (B7.out.trans (hb8.mono B7.out.size))
  have BV8 := Lib.hid (BV6.out.trans (hb8.mono BV6.out.size))
  have R8 := Lib.hid (And.intro ((R6.out.under BV6.out).under hb8) hr8)
  have X8 := Lib.hid (X6.out.under hb8)
  obtain ⟨d2, e2, S2, o2, rfl, hd8, hs8⟩ := hr8.ex
  have D8 := Lib.hid (And.intro hd8 hs8)
  clear hb8 hr8 hd8 hs8
  go_upto_region 6 with fail
  obtain ⟨V9, hV9⟩ : ∃ V9, ww8.alloc (.cells #[.slice d2 n5 e2, .slice (some ⟨S2, o2, none⟩) 3 3] 91) = V9 := ⟨_, rfl⟩
  have hb9 : Below ww8.heap.size ww8 V9 := by rw [← hV9]; exact (Below.refl _ _).alloc (Nat.le_refl _) _
  have X9 := Lib.hid (And.intro (X8.out.under hb9) (show TwoR V9 ww8.heap.size (.slice d2 n5 e2) (.slice (some ⟨S2, o2, none⟩) 3 3) by rw [← hV9]; exact ⟨_, World.alloc_heap_new ww8 _⟩))
  have B9 := Lib.hid (B8.out.trans (hb9.mono B8.out.size))
  have R9 := Lib.hid (And.intro (R8.out.1.under hb9) (R8.out.2.under hb9))
  have BD1 := Lib.hid (BV8.out.trans (hb9.mono BV8.out.size))
  have DA := Lib.hid (show RowZ V9 d1 n5 e1 (valsF (lnDone C lp 90) n5) ∧ RowZ V9 d2 n5 e2 (valsF (lnDone C lq T2) n5) from ⟨D6.out.1.under BD1.out, D8.out.1.under hb9⟩)
  have SA := Lib.hid (show (∀ c, c < 3 → ∃ x k, V9.cell? ⟨S1, o1 + c, none⟩ = some (.slice x 91 k) ∧ RowZ V9 x 91 k (valsF (fun t => sentF lp (c : Int) (lineS C lp t)) 91)) ∧ ∀ c, c < 3 → ∃ B o k, V9.cell? ⟨S2, o2 + c, none⟩ = some (.slice (some ⟨B, o, none⟩) N2 k) ∧ RowZ V9 (some ⟨B, o, none⟩) N2 k (valsF (fun t => sentF lq (c : Int) (lineS C lq t)) N2) from
    ⟨fun c hc => by obtain ⟨x, k, g1, g2, _⟩ := D6.out.2 c hc; exact ⟨x, k, (BD1.out.cell (lt_of_cell g1)).trans g1, g2.under BD1.out⟩,
     fun c hc => by obtain ⟨x, k, g1, g2, B, o, rfl⟩ := D8.out.2 c hc; exact ⟨B, o, k, (hb9.cell (lt_of_cell g1)).trans g1, g2.under hb9⟩⟩)
  rw [hV9]
  clear hV9 hb9
  obtain ⟨b2, hb2⟩ : ∃ n, ww8.heap.size = n := ⟨_, rfl⟩
  rw [hb2] at X9 ⊢
  clear hb2 D6 D8 X6 X8 P6 P7 BV6 BV8 R6 R8 B5 B6 B7 B8 HR1 HR2
  have HN2 := Lib.hid hN2
  have hN2e : (T2 : Int) + 1 = (N2 : Int) := by omega
  clear hN2
  obtain ⟨q0, q1, q2, q3⟩ := run_boxes X9.out (Below.refl _ _)
  have hso1 : Calls Try.prog 87 #[.slice a1 n5 c1, .agg #[.slice d1 n5 e1, .slice (some ⟨S1, o1, none⟩) 3 3], .int .i64 3, .int .i64 90] V9 (Says (.bool true) V9) :=
    sound16 a1 n5 c1 _ 3 91 _ _ 90 (by omega) V9 R9.out.1
  have HSO1 := Lib.hid hso1
  clear hso1
  go_wp2_with fail
  refine HSO1.out.mono ?_
  rintro e u1 ⟨rfl, hb10⟩
  clear q0 q1 q2 q3
  obtain ⟨q0, q1, q2, q3⟩ := run_boxes X9.out hb10
  have BU1 := Lib.hid hb10
  clear hb10
  have hso2 : Calls Try.prog 87 #[.slice a5 n5 c5, .agg #[.slice d2 n5 e2, .slice (some ⟨S2, o2, none⟩) 3 3], .int .i64 3, .int .i64 T2] u1 (Says (.bool true) u1) :=
    sound16 a5 n5 c5 _ 3 N2 _ _ (T2 : Int) hN2e u1 (R9.out.2.under BU1.out)
  have HSO2 := Lib.hid hso2
  clear hso2 hN2e
  go_wp2_with fail
  refine HSO2.out.mono ?_
  rintro e u2 ⟨rfl, hb11⟩
  have BU := Lib.hid (BU1.out.trans (hb11.mono BU1.out.size))
  clear hb11 q0 q1 q2 q3
  go_wp2_with fail
  go_loopw [70] (fun vi wx => ∃ i : Nat, vi = .int .i64 i ∧ i ≤ n5 ∧ Hid (Below V9.heap.size V9 wx)) (fun vi _ => n5 - (intOf vi).toNat)
  case atStart => exact ⟨0, by go_num, Nat.zero_le _, BU⟩
  case round =>
    obtain ⟨i, rfl, hi, HI⟩ := hrel
    obtain ⟨wi, rfl⟩ : ∃ u : World, u = wr := ⟨_, rfl⟩
    by_cases hlt : i < n5
    · have hlI : (i : Int) < (n5 : Int) := by omega
      obtain ⟨q0, _, q2, _⟩ := run_boxes X9.out HI.out
      obtain ⟨y1, z1, hy1, hc1, _, hz1, hzb1⟩ := row_get16 (DA.out.1.under HI.out) hlt
      obtain ⟨y2, z2, hy2, hc2, _, hz2, hzb2⟩ := row_get16 (DA.out.2.under HI.out) hlt
      rw [valsF_at _ hlt] at hz1 hz2
      have hil : i < lp.length := by rw [HLEN.out]; exact hlt
      have hrel := lnDone_late HT0.out (show 0 ≤ C by omega) HT1.out hil 90
      rw [HLQ.out, HT2.out, hz1, hz2] at hrel
      have hbd := doneF_bd (lineS C lp) (preS lp (i + 1)) 90
      have hz1' : doneF (lineS C lp) (preS lp (i + 1)) 90 = z1 := hz1
      rw [hz1'] at hbd
      clear hz1 hz2 hz1' hil hzb1 hzb2
      subst hy1 hy2
      by_cases h0 : 0 ≤ z1
      · rw [if_pos h0] at hrel
        subst hrel
        have hg : z1 ≥ 0 := h0
        have hl0 : ¬ z1 < 0 := by omega
        have hw1 : IntKind.i64.wrap (z1 + (ν : Int)) = z1 + (ν : Int) := IntWalk.i64_in _ ⟨by omega, by omega⟩
        go_upto_region 11 with fail
        go_quiet (fail)
        go_wp2_with fail
        go_roundw
        case rel => exact ⟨i + 1, by go_num, by omega, Lib.hid (HI.out.drewN _)⟩
        case measure => first | (simp [intOf]; done) | (simp [intOf]; omega)
      · rw [if_neg h0] at hrel
        subst hrel
        obtain rfl : z1 = -1 := by omega
        clear h0 hbd
        go_upto_region 11 with fail
        go_quiet (fail)
        go_wp2_with fail
        go_roundw
        case rel => exact ⟨i + 1, by go_num, by omega, Lib.hid (HI.out.drewN _)⟩
        case measure => first | (simp [intOf]; done) | (simp [intOf]; omega)
    · obtain rfl : i = n5 := by omega
      have hlI : ¬ (i : Int) < (i : Int) := by omega
      go_wp2_with fail
      go_loopw [14] (fun vi wx => ∃ k : Nat, vi = .int .i64 k ∧ k ≤ 3 ∧ Hid (Below V9.heap.size V9 wx)) (fun vi _ => 3 - (intOf vi).toNat)
      case atStart => exact ⟨0, by go_num, Nat.zero_le _, HI⟩
      case round =>
        obtain ⟨k, rfl, hk, HK⟩ := hrel
        obtain ⟨wk, rfl⟩ : ∃ u : World, u = wr := ⟨_, rfl⟩
        clear HI
        by_cases hlt3 : k < 3
        · have hlI3 : (k : Int) < 3 := by omega
          obtain ⟨x1, k1, g1, hz1⟩ := SA.out.1 k hlt3
          obtain ⟨B2, f2, k2, g2, hz2⟩ := SA.out.2 k hlt3
          have HZ := Lib.hid (And.intro hz1 hz2)
          have hbk : Below V9.heap.size V9 wk.drew := HK.out.trans (((Below.refl _ _).drew : Below wk.heap.size wk wk.drew).mono HK.out.size)
          have HBK := Lib.hid hbk
          have HS17 := Lib.hid (show wk.drew.cell? ⟨b1, 1, none⟩ = some (.slice (some ⟨S1, o1, none⟩) 3 3) ∧ wk.drew.cell? ⟨b2, 1, none⟩ = some (.slice (some ⟨S2, o2, none⟩) 3 3) ∧ wk.drew.cell? ⟨S1, o1 + k, none⟩ = some (.slice x1 91 k1) ∧ wk.drew.cell? ⟨S2, o2 + k, none⟩ = some (.slice (some ⟨B2, f2, none⟩) N2 k2) from
            ⟨(run_boxes X9.out hbk).2.1, (run_boxes X9.out hbk).2.2.2, (hbk.cell (lt_of_cell g1)).trans g1, (hbk.cell (lt_of_cell g2)).trans g2⟩)
          have hcl := hz2.le
          have hcm := hz2.cm
          have hνN : ν ≤ N2 := by have := HN2.out; have := HT2.out; omega
          have hne : ¬ N2 = ν := by have := HN2.out; have := HT2.out; omega
          have hne2 : ¬ k2 = ν := by have := HN2.out; have := HT2.out; omega
          have HSAME := Lib.hid (show (valsF (fun t => sentF lq (k : Int) (lineS C lq t)) N2).drop ν = valsF (fun t => sentF lp (k : Int) (lineS C lp t)) 91 from
            valsF_drop _ _ (by have := HN2.out; have := HT2.out; omega) (fun j _ => by
              have h1 := lineS_late HT0.out (show 0 ≤ C by omega) HT1.out j
              rw [HLQ.out] at h1
              show sentF lq (k : Int) (lineS C lq (ν + j)) = sentF lp (k : Int) (lineS C lp j)
              rw [show ν + j = j + ν by omega, h1, ← HLQ.out, sent_late]))
          clear hz1 hz2 g1 g2 hbk
          go_upto_region 17 with fail
          refine wp_region_keeps (fun u => u.cell? ⟨b1, 1, none⟩ = some (.slice (some ⟨S1, o1, none⟩) 3 3) ∧ u.cell? ⟨b2, 1, none⟩ = some (.slice (some ⟨S2, o2, none⟩) 3 3) ∧ u.cell? ⟨S1, o1 + k, none⟩ = some (.slice x1 91 k1) ∧ u.cell? ⟨S2, o2 + k, none⟩ = some (.slice (some ⟨B2, f2, none⟩) N2 k2)) 13 1 (by kernel_rfl) (by kernel_rfl) HS17.out (fun hHeld0 => ?_)
          refine wpAnyK_take (i := 0) (v := ?_) rfl (by kernel_rfl) (fun _ _ _ h => h) (Or.inl ⟨by rfl, ?_⟩) (by assumption) ?_
          rotate_left
          · (intro w hSw; (try dsimp only at hSw); go_simp; try with_reducible rfl)
          try simp only [Act.put, List.getElem_toArray, List.getElem_cons_zero, List.getElem_cons_succ, List.setIfInBounds_toArray, List.set_cons_zero, List.set_cons_succ]
          refine wpAnyK_take (i := 1) (v := ?_) rfl (by kernel_rfl) (fun _ _ _ h => h) (Or.inl ⟨by rfl, ?_⟩) (by assumption) ?_
          rotate_left
          · (intro w hSw; (try dsimp only at hSw); go_simp; try with_reducible rfl)
          try simp only [Act.put, List.getElem_toArray, List.getElem_cons_zero, List.getElem_cons_succ, List.setIfInBounds_toArray, List.set_cons_zero, List.set_cons_succ]
          refine wpAnyK_take (i := 2) (v := ?_) rfl (by kernel_rfl) (fun _ _ _ h => h) (Or.inl ⟨by rfl, ?_⟩) (by assumption) ?_
          rotate_left
          · (intro w hSw; (try dsimp only at hSw); go_simp; try with_reducible rfl)
          try simp only [Act.put, List.getElem_toArray, List.getElem_cons_zero, List.getElem_cons_succ, List.setIfInBounds_toArray, List.set_cons_zero, List.set_cons_succ]
          refine wpAnyK_take (i := 3) (v := ?_) rfl (by kernel_rfl) (fun _ _ _ h => h) (Or.inl ⟨by rfl, ?_⟩) (by assumption) ?_
          rotate_left
          · (intro w hSw; (try dsimp only at hSw); go_simp; try with_reducible rfl)
          try simp only [Act.put, List.getElem_toArray, List.getElem_cons_zero, List.getElem_cons_succ, List.setIfInBounds_toArray, List.set_cons_zero, List.set_cons_succ]
          refine wpAnyK_take (i := 4) (v := ?_) rfl (by kernel_rfl) (fun _ _ _ h => h) (Or.inl ⟨by rfl, ?_⟩) (by assumption) ?_
          rotate_left
          · (intro w hSw; (try dsimp only at hSw); go_simp; try with_reducible rfl)
          try simp only [Act.put, List.getElem_toArray, List.getElem_cons_zero, List.getElem_cons_succ, List.setIfInBounds_toArray, List.set_cons_zero, List.set_cons_succ]
          refine wpAnyK_take (i := 5) (v := ?_) rfl (by kernel_rfl) (fun _ _ _ h => h) (Or.inl ⟨by rfl, ?_⟩) (by assumption) ?_
          rotate_left
          · (intro w hSw; (try dsimp only at hSw); go_simp; try with_reducible rfl)
          try simp only [Act.put, List.getElem_toArray, List.getElem_cons_zero, List.getElem_cons_succ, List.setIfInBounds_toArray, List.set_cons_zero, List.set_cons_succ]
          refine wpAnyK_take (i := 6) (v := ?_) rfl (by kernel_rfl) (fun _ _ _ h => h) (Or.inl ⟨by rfl, ?_⟩) (by assumption) ?_
          rotate_left
          · (intro w hSw; (try dsimp only at hSw); go_simp; try with_reducible rfl)
          try simp only [Act.put, List.getElem_toArray, List.getElem_cons_zero, List.getElem_cons_succ, List.setIfInBounds_toArray, List.set_cons_zero, List.set_cons_succ]
          refine wpAnyK_take (i := 7) (v := ?_) rfl (by kernel_rfl) (fun _ _ _ h => h) (Or.inl ⟨by rfl, ?_⟩) (by assumption) ?_
          rotate_left
          · (intro w hSw; (try dsimp only at hSw); go_simp; try with_reducible rfl)
          try simp only [Act.put, List.getElem_toArray, List.getElem_cons_zero, List.getElem_cons_succ, List.setIfInBounds_toArray, List.set_cons_zero, List.set_cons_succ]
          refine wpAnyK_take (i := 8) (v := ?_) rfl (by kernel_rfl) (fun _ _ _ h => h) (Or.inl ⟨by rfl, ?_⟩) (by assumption) ?_
          rotate_left
          · (intro w hSw; (try dsimp only at hSw); go_simp; try with_reducible rfl)
          try simp only [Act.put, List.getElem_toArray, List.getElem_cons_zero, List.getElem_cons_succ, List.setIfInBounds_toArray, List.set_cons_zero, List.set_cons_succ]
          refine wpAnyK_take (i := 9) (v := ?_) rfl (by kernel_rfl) (fun _ _ _ h => h) (Or.inl ⟨by rfl, ?_⟩) (by assumption) ?_
          rotate_left
          · (intro w hSw; (try dsimp only at hSw); go_simp; try with_reducible rfl)
          try simp only [Act.put, List.getElem_toArray, List.getElem_cons_zero, List.getElem_cons_succ, List.setIfInBounds_toArray, List.set_cons_zero, List.set_cons_succ]
          refine wpAnyK_take (i := 10) (v := ?_) rfl (by kernel_rfl) (fun _ _ _ h => h) (Or.inl ⟨by rfl, ?_⟩) (by assumption) ?_
          rotate_left
          · (intro w hSw; (try dsimp only at hSw); go_simp; try with_reducible rfl)
          try simp only [Act.put, List.getElem_toArray, List.getElem_cons_zero, List.getElem_cons_succ, List.setIfInBounds_toArray, List.set_cons_zero, List.set_cons_succ]
          refine wpAnyK_take (i := 11) (v := ?_) rfl (by kernel_rfl) (fun _ _ _ h => h) (Or.inl ⟨by rfl, ?_⟩) (by assumption) ?_
          rotate_left
          · (intro w hSw; (try dsimp only at hSw); go_simp; try with_reducible rfl)
          try simp only [Act.put, List.getElem_toArray, List.getElem_cons_zero, List.getElem_cons_succ, List.setIfInBounds_toArray, List.set_cons_zero, List.set_cons_succ]
          refine wpAnyK_step (i := 12) rfl (by kernel_rfl) (fun K hK => ?_)
          go_simp
          refine (rints5_any (some ⟨B2, f2 + ν, none⟩) (N2 - ν) (k2 - ν) _ x1 91 k1 _ true (decide_eq_true HSAME.out) _ ((HZ.out.2.under HBK.out).drop16 hνN) (HZ.out.1.under HBK.out)).mono ?_
          rintro e w31 ⟨rfl, m31, rfl⟩
          refine hK.out _ _ ⟨HS17.out.1, HS17.out.2.1, HS17.out.2.2.1, HS17.out.2.2.2⟩ (fun hHeld1 => ?_)
          clear hK K hHeld0
          try simp only [Act.put, List.getElem_toArray, List.getElem_cons_zero, List.getElem_cons_succ, List.setIfInBounds_toArray, List.set_cons_zero, List.set_cons_succ]
          refine wpAnyK_done (by kernel_rfl) ?_
          simp only [List.drop_succ_cons, List.drop_zero]
          clear hHeld1
          have HK3 := Lib.hid (HBK.out.drewN m31)
          go_wp2_with fail
          go_roundw
          case rel => exact ⟨k + 1, by go_num, by omega, Lib.hid (HK.out.drewN _)⟩
          case measure => first | (simp [intOf]; done) | (simp [intOf]; omega)
        · obtain rfl : k = 3 := by omega
          have hlI3 : ¬ ((3 : Nat) : Int) < 3 := by omega
          go_wp2_with fail
          refine (awake16 _).mono ?_
          rintro e w6 ⟨rfl, hb6⟩
          have HE := Lib.hid (HFIN.out _ (B9.out.trans ((HK.out.trans (hb6.mono HK.out.size)).mono B9.out.size)))
          clear hb6
          go_wp2_with fail
          go_ret
          exact ⟨rfl, HE.out⟩
end Go.Proofs.Ytkienpbmoilheaa
