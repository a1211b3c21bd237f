/- The document's Token at whatever bucket, and its Steps. By the verifier's side. -/
import Derived.Test.YtjipmkgnndldpaaFBkR
namespace Go.Proofs.Ytjipmkgnndldpaa
open Go.RowKit
set_option linter.unusedSimpArgs false
set_option linter.unusedVariables false

set_option maxHeartbeats 1600000 in
theorem rtoken_ce {bn bd rn rd : Int} {zs : List Int} {p inc c : Int} (h : TokIs bn bd rn rd zs p inc c) (w : World) :
    Calls Try.prog 83 #[bucketV bn bd rn rd] w (GivesCE zs p inc c w) := by
  rcases h with ⟨h1, h2⟩ | ⟨h1, rfl, rfl, rfl, rfl⟩
  · rw [Bool.and_eq_true] at h1
    obtain ⟨x1, x2, rfl, rfl, m1, m2, m3⟩ := okB_nat h1.1
    obtain ⟨x3, x4, rfl, rfl, m4, m5, m6⟩ := okB_nat h1.2
    rw [Int.toNat_natCast, Int.toNat_natCast, Int.toNat_natCast, Int.toNat_natCast] at h2
    exact rtoken_ok h1.1 h1.2 h2 w
  · obtain ⟨W0, hW⟩ : ∃ W, (w.alloc (.cells #[.int .i64 bn, .int .i64 bd, .int .i64 rn, .int .i64 rd] 46)).alloc (.cells #[.slice none 0 0, .int .i64 0, .int .i64 0] 38) = W := ⟨_, rfl⟩
    obtain ⟨hX, hR, hB⟩ := bucket_boxes w bn bd rn rd hW
    have HX := Lib.hid hX
    have HR := Lib.hid hR
    have HB := Lib.hid hB
    have HW := Lib.hid hW
    clear hX hR hB hW
    cases hb1 : okB bn bd with
    | false =>
      have H1 := Lib.hid hb1
      clear hb1 h1
      go_enter Try.func83, Try.ntmps83
      go_upto_region 1 with fail
      rw [HW.out]
      obtain ⟨c0, c1, c2, c3⟩ := HX.out
      go_wp2_with fail
      clear c0 c1 c2 c3
      refine (rgood_any _ _ _ H1.out _).mono ?_
      rintro e u1 ⟨rfl, hb⟩
      have HX1 := Lib.hid (HX.out.below hb)
      have HRX := Lib.hid (HR.out.below hb)
      have HBX := Lib.hid (HB.out.trans (hb.mono HB.out.size))
      clear hb
      obtain ⟨e0, e1, e2, e3, e4, e5⟩ := HRX.out
      go_wp2_with fail
      exact bodyPost_ret (v := .tuple #[curV none 0 0 0 0, .int .i64 2]) (by simp [results, Try.results83, go_sem, e0, e1, e2]) rfl (GivesCE.postBad (b := w.heap.size + 1) HBX.out (Nat.le_succ _) 2)
    | true =>
      have H1 := Lib.hid hb1
      have H3 := Lib.hid (show okB rn rd = false by rw [hb1] at h1; exact h1)
      clear hb1 h1
      go_enter Try.func83, Try.ntmps83
      go_upto_region 1 with fail
      rw [HW.out]
      obtain ⟨c0, c1, c2, c3⟩ := HX.out
      go_wp2_with fail
      clear c0 c1 c2 c3
      refine (rgood_any _ _ _ H1.out _).mono ?_
      rintro e u1 ⟨rfl, hb⟩
      have HX1 := Lib.hid (HX.out.below hb)
      have HRX := Lib.hid (HR.out.below hb)
      have HBX := Lib.hid (HB.out.trans (hb.mono HB.out.size))
      clear hb
      obtain ⟨c0, c1, c2, c3⟩ := HX1.out
      go_wp2_with fail
      clear c0 c1 c2 c3
      refine (rgood_any _ _ _ H3.out _).mono ?_
      rintro e u2 ⟨rfl, hb⟩
      have HRX := Lib.hid (HRX.out.below hb)
      have HBX := Lib.hid (HBX.out.trans (hb.mono HBX.out.size))
      clear hb
      obtain ⟨e0, e1, e2, e3, e4, e5⟩ := HRX.out
      go_wp2_with fail
      exact bodyPost_ret (v := .tuple #[curV none 0 0 0 0, .int .i64 2]) (by simp [results, Try.results83, go_sem, e0, e1, e2]) rfl (GivesCE.postBad (b := w.heap.size + 1) HBX.out (Nat.le_succ _) 2)


set_option maxRecDepth 100000 in
set_option maxHeartbeats 6400000 in
theorem rsteps_ce {st ev ah : Int} {zs : List Int} {p inc c : Int} (h : StepIs st ev ah zs p inc c) (w : World) :
    Calls Try.prog 85 #[stairV st ev ah] w (GivesCE zs p inc c w) := by
  obtain ⟨i0, hi0, hz0, hz1, hz2⟩ := info_parts info_int
  obtain ⟨W, hW⟩ : ∃ W, (w.alloc (.cells #[.int .i64 st, .int .i64 ev, .int .i64 ah] 100)).alloc (.cells #[.slice none 0 0, .int .i64 0, .int .i64 0] 38) = W := ⟨_, rfl⟩
  obtain ⟨hX, hR, hB⟩ := stair_box w st ev ah hW
  have HX := Lib.hid hX
  have HR := Lib.hid hR
  have HB := Lib.hid hB
  have HW := Lib.hid hW
  clear hX hR hB hW
  rcases h with ⟨h1, h2⟩ | ⟨h1, rfl, rfl, rfl, rfl⟩
  rotate_left
  · by_cases k0 : (st : Int) < 0
    · clear h1
      have d0 : decide ((st : Int) < 0) = true := decide_eq_true (by omega)
      go_enter Try.func85, Try.ntmps85
      go_upto_region 1 with fail
      rw [HW.out]
      obtain ⟨c0, c1, c2, c3, c4, c5⟩ := HX.out
      obtain ⟨e0, e1, e2, e3, e4, e5⟩ := HR.out
      go_wp2_with fail
      exact bodyPost_ret (v := .tuple #[curV none 0 0 0 0, .int .i64 2]) (by simp [results, Try.results85, go_sem, e0, e1, e2]) rfl (GivesCE.postBad (b := w.heap.size + 1) HB.out (Nat.le_succ _) 2)
    · by_cases k1 : (1073741824 : Int) < st
      · clear h1
        have d0 : decide ((st : Int) < 0) = false := decide_eq_false (by omega)
        have d1 : decide ((1073741824 : Int) < st) = true := decide_eq_true (by omega)
        go_enter Try.func85, Try.ntmps85
        go_upto_region 1 with fail
        rw [HW.out]
        obtain ⟨c0, c1, c2, c3, c4, c5⟩ := HX.out
        obtain ⟨e0, e1, e2, e3, e4, e5⟩ := HR.out
        go_wp2_with fail
        exact bodyPost_ret (v := .tuple #[curV none 0 0 0 0, .int .i64 2]) (by simp [results, Try.results85, go_sem, e0, e1, e2]) rfl (GivesCE.postBad (b := w.heap.size + 1) HB.out (Nat.le_succ _) 2)
      · by_cases k2 : (ev : Int) < 1
        · clear h1
          have d0 : decide ((st : Int) < 0) = false := decide_eq_false (by omega)
          have d1 : decide ((1073741824 : Int) < st) = false := decide_eq_false (by omega)
          have d2 : decide ((ev : Int) < 1) = true := decide_eq_true (by omega)
          go_enter Try.func85, Try.ntmps85
          go_upto_region 1 with fail
          rw [HW.out]
          obtain ⟨c0, c1, c2, c3, c4, c5⟩ := HX.out
          obtain ⟨e0, e1, e2, e3, e4, e5⟩ := HR.out
          go_wp2_with fail
          exact bodyPost_ret (v := .tuple #[curV none 0 0 0 0, .int .i64 2]) (by simp [results, Try.results85, go_sem, e0, e1, e2]) rfl (GivesCE.postBad (b := w.heap.size + 1) HB.out (Nat.le_succ _) 2)
        · by_cases k3 : (120 : Int) < ev
          · clear h1
            have d0 : decide ((st : Int) < 0) = false := decide_eq_false (by omega)
            have d1 : decide ((1073741824 : Int) < st) = false := decide_eq_false (by omega)
            have d2 : decide ((ev : Int) < 1) = false := decide_eq_false (by omega)
            have d3 : decide ((120 : Int) < ev) = true := decide_eq_true (by omega)
            go_enter Try.func85, Try.ntmps85
            go_upto_region 1 with fail
            rw [HW.out]
            obtain ⟨c0, c1, c2, c3, c4, c5⟩ := HX.out
            obtain ⟨e0, e1, e2, e3, e4, e5⟩ := HR.out
            go_wp2_with fail
            exact bodyPost_ret (v := .tuple #[curV none 0 0 0 0, .int .i64 2]) (by simp [results, Try.results85, go_sem, e0, e1, e2]) rfl (GivesCE.postBad (b := w.heap.size + 1) HB.out (Nat.le_succ _) 2)
          · by_cases k4 : (ah : Int) < 0
            · clear h1
              have d0 : decide ((st : Int) < 0) = false := decide_eq_false (by omega)
              have d1 : decide ((1073741824 : Int) < st) = false := decide_eq_false (by omega)
              have d2 : decide ((ev : Int) < 1) = false := decide_eq_false (by omega)
              have d3 : decide ((120 : Int) < ev) = false := decide_eq_false (by omega)
              have d4 : decide ((ah : Int) < 0) = true := decide_eq_true (by omega)
              go_enter Try.func85, Try.ntmps85
              go_upto_region 1 with fail
              rw [HW.out]
              obtain ⟨c0, c1, c2, c3, c4, c5⟩ := HX.out
              obtain ⟨e0, e1, e2, e3, e4, e5⟩ := HR.out
              go_wp2_with fail
              exact bodyPost_ret (v := .tuple #[curV none 0 0 0 0, .int .i64 2]) (by simp [results, Try.results85, go_sem, e0, e1, e2]) rfl (GivesCE.postBad (b := w.heap.size + 1) HB.out (Nat.le_succ _) 2)
            · by_cases k5 : (1048576 : Int) < ah
              · clear h1
                have d0 : decide ((st : Int) < 0) = false := decide_eq_false (by omega)
                have d1 : decide ((1073741824 : Int) < st) = false := decide_eq_false (by omega)
                have d2 : decide ((ev : Int) < 1) = false := decide_eq_false (by omega)
                have d3 : decide ((120 : Int) < ev) = false := decide_eq_false (by omega)
                have d4 : decide ((ah : Int) < 0) = false := decide_eq_false (by omega)
                have d5 : decide ((1048576 : Int) < ah) = true := decide_eq_true (by omega)
                go_enter Try.func85, Try.ntmps85
                go_upto_region 1 with fail
                rw [HW.out]
                obtain ⟨c0, c1, c2, c3, c4, c5⟩ := HX.out
                obtain ⟨e0, e1, e2, e3, e4, e5⟩ := HR.out
                go_wp2_with fail
                exact bodyPost_ret (v := .tuple #[curV none 0 0 0 0, .int .i64 2]) (by simp [results, Try.results85, go_sem, e0, e1, e2]) rfl (GivesCE.postBad (b := w.heap.size + 1) HB.out (Nat.le_succ _) 2)
              · exact absurd ((okS_iff st ev ah).2 ⟨by omega, by omega, by omega, by omega, by omega, by omega⟩) (by rw [h1]; decide)
  rw [okS_iff] at h1
  obtain ⟨m1, m2, m3, m4, m5, m6⟩ := h1
  obtain ⟨s, rfl⟩ := Int.eq_ofNat_of_zero_le m1
  obtain ⟨v, rfl⟩ := Int.eq_ofNat_of_zero_le (show 0 ≤ ev by omega)
  obtain ⟨x, rfl⟩ := Int.eq_ofNat_of_zero_le m5
  rw [Int.toNat_natCast, Int.toNat_natCast, Int.toNat_natCast] at h2
  have hm : s ≤ 1073741824 ∧ 1 ≤ v ∧ v ≤ 120 ∧ x ≤ 1048576 := by omega
  have HM := Lib.hid hm
  obtain ⟨s0, v1, v2, x0⟩ := hm
  have H2 := Lib.hid h2
  clear m1 m2 m3 m4 m5 m6 h2
  have d0 : decide ((s : Int) < 0) = false := decide_eq_false (by omega)
  have d1 : decide ((1073741824 : Int) < s) = false := decide_eq_false (by omega)
  have d2 : decide ((v : Int) < 1) = false := decide_eq_false (by omega)
  have d3 : decide ((120 : Int) < v) = false := decide_eq_false (by omega)
  have d4 : decide ((x : Int) < 0) = false := decide_eq_false (by omega)
  have d5 : decide ((1048576 : Int) < x) = false := decide_eq_false (by omega)
  have n0 : ¬ (v : Int) = 0 := by omega
  have n1 : ¬ v = 0 := by omega
  go_enter Try.func85, Try.ntmps85
  go_upto_region 1 with fail
  rw [HW.out]
  obtain ⟨c0, c1, c2, c3, c4, c5⟩ := HX.out
  obtain ⟨l1, l2, l3, l4⟩ := lt5 HX.out.lt
  go_upto_region 3 with fail
  go_cut [4] (fun s4 wx => s4 = .pointer (some ⟨W.heap.size + 1, 0, none⟩) ∧ Hid (Bq1 W v s (stairF s v x) 1 W.heap.size 1 wx))
  case first =>
    have L0 := Lib.hid (Bq1.start (p := v) (inc := s) (f := (stairF s v x)) (show 1 ≤ W.heap.size by have := HX.out.lt; omega) rfl)
    go_wp2_with fail
    go_meet
    exact ⟨rfl, L0⟩
  case rest =>
  obtain ⟨rfl, L0⟩ := hcut
  obtain ⟨u3, rfl⟩ : ∃ u : World, u = wc := ⟨_, rfl⟩
  clear c0 c1 c2 c3 c4 c5 l1 l2 l3 l4 d0 d1 d2 d3 d4 d5 HW
  go_wp2_with fail
  have HIN := Lib.hid (show ∀ t, t ≤ 1000 → In64 ((stairF s v x) t) from fun t ht => by
    have hm := HM.out
    have := stair_val (ev := v) hm.2.1 hm.1 hm.2.2.2 (st := s) (ah := x) (t := t) (by omega)
    exact ⟨by omega, by omega⟩)
  go_loopw [5] (fun sl wx => ∃ (k g cap : Nat), sl = .int .i64 k ∧ 1 ≤ k ∧ k ≤ v + 1 ∧ Hid (Bq1 W v s (stairF s v x) k g cap wx)) (fun sl _ => v + 1 - (intOf sl).toNat)
  case atStart => exact ⟨1, _, 1, by go_num, by omega, by omega, L0⟩
  case round =>
    obtain ⟨k, g, cap, rfl, hk1, hk, HS⟩ := hrel
    obtain ⟨wk, rfl⟩ : ∃ u : World, u = wr := ⟨_, rfl⟩
    have HXK := Lib.hid (HX.out.below HS.out.below)
    obtain ⟨c0, c1, c2, c3, c4, c5⟩ := HXK.out
    by_cases hlt : k ≤ v
    · have hl2 : (k : Int) ≤ (v : Int) := by omega
      obtain ⟨z, hz⟩ : ∃ z, (stairF s v x) k = z := ⟨_, rfl⟩
      have HZ := Lib.hid hz
      have hd : (k + x + v - 1) / v * s = stairN s v x k := (stair_iff hk1).symm
      obtain ⟨A, hA⟩ : ∃ A : Nat, k + x + v - 1 = A := ⟨_, rfl⟩
      obtain ⟨A1, hA1⟩ : ∃ A : Nat, k + x = A := ⟨_, rfl⟩
      obtain ⟨A2, hA2⟩ : ∃ A : Nat, k + x + v = A := ⟨_, rfl⟩
      have e1 : (k : Int) + (x : Int) = (A1 : Int) := by omega
      have e2 : (A1 : Int) + (v : Int) = (A2 : Int) := by omega
      have e3 : (A2 : Int) - 1 = (A : Int) := by omega
      have w1 : IntKind.i64.wrap (A1 : Int) = (A1 : Int) := IntWalk.i64_in _ ⟨by omega, by omega⟩
      have w2 : IntKind.i64.wrap (A2 : Int) = (A2 : Int) := IntWalk.i64_in _ ⟨by omega, by omega⟩
      have w3 : IntKind.i64.wrap (A : Int) = (A : Int) := IntWalk.i64_in _ ⟨by omega, by omega⟩
      rw [hA] at hd
      obtain ⟨q, hq⟩ : ∃ q : Nat, A / v = q := ⟨_, rfl⟩
      have hqb : q ≤ A := by rw [← hq]; exact Nat.div_le_self _ _
      have eq1 : (A : Int).tdiv (v : Int) = (q : Int) := by rw [← hq]; exact (Int.ofNat_tdiv A v).symm
      have eq2 : (A : Int) / (v : Int) = (q : Int) := by rw [← hq]; exact (Int.natCast_ediv A v).symm
      have wq : IntKind.i64.wrap (q : Int) = (q : Int) := IntWalk.i64_in _ ⟨by omega, by omega⟩
      rw [hq] at hd
      have ez : (s : Int) * (q : Int) = z := by rw [← hz]; show _ = ((stairN s v x k : Nat) : Int); rw [← hd, Int.natCast_mul, Int.mul_comm]
      have hzb : 0 ≤ z ∧ z ≤ 2251799813685248 := by
        have := stair_val (ev := v) v1 s0 x0 (st := s) (ah := x) (t := k) (by omega)
        rw [hz] at this; exact this
      obtain ⟨hzb1, hzb2⟩ := hzb
      have wz : IntKind.i64.wrap z = z := IntWalk.i64_in _ ⟨by omega, by omega⟩
      clear hd hA hA1 hA2 hq hz
      go_upto_region 7 with fail
      obtain ⟨u5, hd1⟩ : ∃ u : World, u = wk := ⟨_, rfl⟩
      rw [← hd1]
      have hd2 := hd1
      have Q0 := Lib.hid (show Bq1 W v s (stairF s v x) k g cap u5.drew by rw [hd1]; exact HS.out.drew)
      have KS8 := Lib.hid (show ∀ u, Bq1 W v s (stairF s v x) k g cap u → (fun u => (u.cell? ⟨w.heap.size, 0, none⟩ = some (.int .i64 s) ∧ u.cell? ⟨w.heap.size, 1, none⟩ = some (.int .i64 v) ∧ u.cell? ⟨w.heap.size, 2, none⟩ = some (.int .i64 x)) ∧ u.cell? ⟨W.heap.size + 1, 0, none⟩ = some (.slice (some ⟨g, 0, none⟩) k cap)) u from fun u hu => by have y := HX.out.below hu.below; exact ⟨⟨y.c0, y.c1, y.c2⟩, hu.out.c0⟩)
      obtain ⟨u6, hu6⟩ : ∃ u, u5.drew = u := ⟨_, rfl⟩
      rw [hu6] at Q0
      clear hd1 hd2 HS c0 c1 c2 c3 c4 c5
      refine wp_region_keeps (fun u => (u.cell? ⟨w.heap.size, 0, none⟩ = some (.int .i64 s) ∧ u.cell? ⟨w.heap.size, 1, none⟩ = some (.int .i64 v) ∧ u.cell? ⟨w.heap.size, 2, none⟩ = some (.int .i64 x)) ∧ u.cell? ⟨W.heap.size + 1, 0, none⟩ = some (.slice (some ⟨g, 0, none⟩) k cap)) 17 3 (by kernel_rfl) (by kernel_rfl) (by rw [hu6]; exact KS8.out _ Q0.out) (fun hHeld0 => ?_)
      rw [hu6] at hHeld0 ⊢
      refine wpAnyK_take (i := 0) (v := ?_) rfl (by kernel_rfl) (fun _ _ _ h => h) (Or.inl ⟨by rfl, ?_⟩) (by assumption) ?_
      rotate_left
      · (intro w hSw; (try dsimp only at hSw); go_simp; try with_reducible rfl)
      try simp only [Act.put, List.getElem_toArray, List.getElem_cons_zero, List.getElem_cons_succ, List.setIfInBounds_toArray, List.set_cons_zero, List.set_cons_succ]
      refine wpAnyK_take (i := 1) (v := ?_) rfl (by kernel_rfl) (fun _ _ _ h => h) (Or.inl ⟨by rfl, ?_⟩) (by assumption) ?_
      rotate_left
      · (intro w hSw; (try dsimp only at hSw); go_simp; try with_reducible rfl)
      try simp only [Act.put, List.getElem_toArray, List.getElem_cons_zero, List.getElem_cons_succ, List.setIfInBounds_toArray, List.set_cons_zero, List.set_cons_succ]
      refine wpAnyK_take (i := 2) (v := ?_) rfl (by kernel_rfl) (fun _ _ _ h => h) (Or.inl ⟨by rfl, ?_⟩) (by assumption) ?_
      rotate_left
      · (intro w hSw; (try dsimp only at hSw); go_simp; try with_reducible rfl)
      try simp only [Act.put, List.getElem_toArray, List.getElem_cons_zero, List.getElem_cons_succ, List.setIfInBounds_toArray, List.set_cons_zero, List.set_cons_succ]
      refine wpAnyK_take (i := 3) (v := ?_) rfl (by kernel_rfl) (fun _ _ _ h => h) (Or.inl ⟨by rfl, ?_⟩) (by assumption) ?_
      rotate_left
      · (intro w hSw; (try dsimp only at hSw); go_simp; try with_reducible rfl)
      try simp only [Act.put, List.getElem_toArray, List.getElem_cons_zero, List.getElem_cons_succ, List.setIfInBounds_toArray, List.set_cons_zero, List.set_cons_succ]
      refine wpAnyK_take (i := 4) (v := ?_) rfl (by kernel_rfl) (fun _ _ _ h => h) (Or.inl ⟨by rfl, ?_⟩) (by assumption) ?_
      rotate_left
      · (intro w hSw; (try dsimp only at hSw); go_simp; try with_reducible rfl)
      try simp only [Act.put, List.getElem_toArray, List.getElem_cons_zero, List.getElem_cons_succ, List.setIfInBounds_toArray, List.set_cons_zero, List.set_cons_succ]
      refine wpAnyK_take (i := 5) (v := ?_) rfl (by kernel_rfl) (fun _ _ _ h => h) (Or.inl ⟨by rfl, ?_⟩) (by assumption) ?_
      rotate_left
      · (intro w hSw; (try dsimp only at hSw); go_simp; try with_reducible rfl)
      try simp only [Act.put, List.getElem_toArray, List.getElem_cons_zero, List.getElem_cons_succ, List.setIfInBounds_toArray, List.set_cons_zero, List.set_cons_succ]
      refine wpAnyK_take (i := 6) (v := ?_) rfl (by kernel_rfl) (fun _ _ _ h => h) (Or.inl ⟨by rfl, ?_⟩) (by assumption) ?_
      rotate_left
      · (intro w hSw; (try dsimp only at hSw); go_simp; try with_reducible rfl)
      try simp only [Act.put, List.getElem_toArray, List.getElem_cons_zero, List.getElem_cons_succ, List.setIfInBounds_toArray, List.set_cons_zero, List.set_cons_succ]
      refine wpAnyK_take (i := 7) (v := ?_) rfl (by kernel_rfl) (fun _ _ _ h => h) (Or.inl ⟨by rfl, ?_⟩) (by assumption) ?_
      rotate_left
      · (intro w hSw; (try dsimp only at hSw); go_simp; try with_reducible rfl)
      try simp only [Act.put, List.getElem_toArray, List.getElem_cons_zero, List.getElem_cons_succ, List.setIfInBounds_toArray, List.set_cons_zero, List.set_cons_succ]
      refine wpAnyK_take (i := 8) (v := ?_) rfl (by kernel_rfl) (fun _ _ _ h => h) (Or.inl ⟨by rfl, ?_⟩) (by assumption) ?_
      rotate_left
      · (intro w hSw; (try dsimp only at hSw); go_simp; try with_reducible rfl)
      try simp only [Act.put, List.getElem_toArray, List.getElem_cons_zero, List.getElem_cons_succ, List.setIfInBounds_toArray, List.set_cons_zero, List.set_cons_succ]
      refine wpAnyK_take (i := 9) (v := ?_) rfl (by kernel_rfl) (fun _ _ _ h => h) (Or.inl ⟨by rfl, ?_⟩) (by assumption) ?_
      rotate_left
      · (intro w hSw; (try dsimp only at hSw); go_simp; try with_reducible rfl)
      try simp only [Act.put, List.getElem_toArray, List.getElem_cons_zero, List.getElem_cons_succ, List.setIfInBounds_toArray, List.set_cons_zero, List.set_cons_succ]
      refine wpAnyK_take (i := 10) (v := ?_) rfl (by kernel_rfl) (fun _ _ _ h => h) (Or.inl ⟨by rfl, ?_⟩) (by assumption) ?_
      rotate_left
      · (intro w hSw; (try dsimp only at hSw); go_simp; try with_reducible rfl)
      try simp only [Act.put, List.getElem_toArray, List.getElem_cons_zero, List.getElem_cons_succ, List.setIfInBounds_toArray, List.set_cons_zero, List.set_cons_succ]
      refine wpAnyK_take (i := 11) (v := ?_) rfl (by kernel_rfl) (fun _ _ _ h => h) (Or.inl ⟨by rfl, ?_⟩) (by assumption) ?_
      rotate_left
      · (intro w hSw; (try dsimp only at hSw); go_simp; try with_reducible rfl)
      try simp only [Act.put, List.getElem_toArray, List.getElem_cons_zero, List.getElem_cons_succ, List.setIfInBounds_toArray, List.set_cons_zero, List.set_cons_succ]
      refine wpAnyK_take (i := 12) (v := ?_) rfl (by kernel_rfl) (fun _ _ _ h => h) (Or.inl ⟨by rfl, ?_⟩) (by assumption) ?_
      rotate_left
      · (intro w hSw; (try dsimp only at hSw); go_simp; try with_reducible rfl)
      try simp only [Act.put, List.getElem_toArray, List.getElem_cons_zero, List.getElem_cons_succ, List.setIfInBounds_toArray, List.set_cons_zero, List.set_cons_succ]
      refine wpAnyK_take (i := 13) (v := ?_) rfl (by kernel_rfl) (fun _ _ _ h => h) (Or.inl ⟨by rfl, ?_⟩) (by assumption) ?_
      rotate_left
      · (intro w hSw; (try dsimp only at hSw); go_simp; try with_reducible rfl)
      try simp only [Act.put, List.getElem_toArray, List.getElem_cons_zero, List.getElem_cons_succ, List.setIfInBounds_toArray, List.set_cons_zero, List.set_cons_succ]
      refine wpAnyK_take (i := 14) (v := ?_) rfl (by kernel_rfl) (fun _ _ _ h => h) (Or.inl ⟨by rfl, ?_⟩) (by assumption) ?_
      rotate_left
      · (intro w hSw; (try dsimp only at hSw); go_simp; try with_reducible rfl)
      try simp only [Act.put, List.getElem_toArray, List.getElem_cons_zero, List.getElem_cons_succ, List.setIfInBounds_toArray, List.set_cons_zero, List.set_cons_succ]
      refine wpAnyK_take (i := 15) (v := ?_) rfl (by kernel_rfl) (fun _ _ _ h => h) (Or.inl ⟨by rfl, ?_⟩) (by assumption) ?_
      rotate_left
      · (intro w hSw; (try dsimp only at hSw); go_simp; try with_reducible rfl)
      try simp only [Act.put, List.getElem_toArray, List.getElem_cons_zero, List.getElem_cons_succ, List.setIfInBounds_toArray, List.set_cons_zero, List.set_cons_succ]
      refine wpAnyK_step (i := 16) rfl (by kernel_rfl) (fun K hK => ?_)
      go_simp
      refine hK.out _ _ (KS8.out _ (Q0.out.alloc _)) (fun hHeld1 => ?_)
      clear hK K hHeld0
      try simp only [Act.put, List.getElem_toArray, List.getElem_cons_zero, List.getElem_cons_succ, List.setIfInBounds_toArray, List.set_cons_zero, List.set_cons_succ]
      refine wpAnyK_done (by kernel_rfl) ?_
      simp only [List.drop_succ_cons, List.drop_zero]
      have HN7 : Hid (∀ j u, [Value.int .i64 z][j]? = some u → (u6.alloc (.cells #[.int .i64 z] 3)).cell? ((⟨u6.heap.size, 0, none⟩ : Addr).add j) = some u) := Lib.hid (World.news_of_block (cs := #[.int .i64 z]) (t := 3) (fr := (0, 0)) (heap_alloc_new u6 _))
      have Q7 := Lib.hid (Q0.out.alloc (.cells #[.int .i64 z] 3))
      clear hHeld1
      obtain ⟨b7, hb7⟩ : ∃ b, u6.heap.size = b := ⟨_, rfl⟩
      rw [hb7] at HN7 ⊢
      generalize u6.alloc (.cells #[.int .i64 z] 3) = w7 at HN7 Q7 ⊢
      clear hb7
      go_wp2_with (at_builtin; refine wpList_append_lies _ rfl _ _ 27 rfl W.heap.size 3 i0 (.int .i64 0) 1 8 Try.underlying27 hi0 hz0 hz1 hz2 rfl (by decide) (.slice (some ⟨g, 0, none⟩) k cap) k ((firsts (stairF s v x) k).map (Value.int .i64)) rfl Q7.out.own ⟨b7, 0, none⟩ 1 1 [.int .i64 z] rfl rfl HN7.out ?l2 (by omega) ?l3 ?l4 ?l5 _ rfl ?_)
      case l2 => first | rfl | (intro u hu; simp at hu; subst hu; rfl)
      case l3 => unfold maxLen; omega
      case l4 => omega
      case l5 => exact Q7.out.below.size
      intro g2 cap2 w8 hown1 hgrow hat hlt8
      have hbox8 := Q7.out.out.grownS hgrow Q7.out.ne
      have Q8 := Lib.hid (Q7.out.push hown1 hgrow (hatOf hat) HZ.out)
      clear hown1 hgrow hat hlt8
      obtain ⟨d0, d1, d2, e0, e1, e2⟩ := hbox8
      go_wp2_with fail
      go_roundw
      case rel => exact ⟨k + 1, g2, cap2, by go_num, by omega, by omega, Q8⟩
      case measure => simp [intOf]; omega
    · have hl2 : ¬ (k : Int) ≤ (v : Int) := by omega
      obtain rfl : k = v + 1 := by omega
      have hin : ∀ t, t < v + 1 → In64 ((stairF s v x) t) := fun t ht => HIN.out t (by omega)
      have RLAST := Lib.hid (HS.out.row (by omega) (by omega) hin)
      have HBL := Lib.hid (HB.out.trans (HS.out.below.mono HB.out.size))
      have KRL := Lib.hid (HR.out.below HS.out.below)
      obtain ⟨o0, o1, o2, o3, o4, o5⟩ := HS.out.out
      clear hin
      go_wp2_with fail
      have HRAW := Lib.hid (stair_raw (ev := v) (st := s) (ah := x) v1 v2 s0 x0)
      rw [Nat.add_comm 1 v] at HRAW
      refine (rmade_ok _ _ _ _ _ _ HRAW.out _ RLAST.out).mono ?_
      rintro e v9 hg9
      obtain ⟨a, n, cap9, rfl, hb, hr, hx⟩ := H2.out.ce hg9
      have HQ := Lib.hid (GivesCE.post (b := w.heap.size + 1) (p := p) (inc := inc) (c := c) HBL.out (Nat.le_succ _) KRL.out.lt hb hr hx)
      obtain ⟨r0, r1, r2, r3, r4, r5⟩ := KRL.out.below hb
      clear hb hr hx hg9
      go_wp2_with fail
      exact bodyPost_ret (v := .tuple #[curV a n cap9 p inc, .int .i64 c]) (by simp [results, Try.results85, go_sem, r0, r1, r2]) rfl HQ.out

end Go.Proofs.Ytjipmkgnndldpaa
