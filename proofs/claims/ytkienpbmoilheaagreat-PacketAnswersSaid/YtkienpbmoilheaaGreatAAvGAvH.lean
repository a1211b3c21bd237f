/- The sort of package slices at arrivals: the merges. By the verifier's side. -/
import Derived.Test.YtkienpbmoilheaaGreatAAvEAvI
import Derived.Deep.DeepCutAuto
namespace Go.Proofs.YtkienpbmoilheaaGreat
open Go.RowKit Go.Sort
set_option linter.unusedSimpArgs false
set_option linter.unusedVariables false


/-- What the merge in place comes to. -/
theorem Mer_a.split {L' y : List Pk_a} {a m b n s e mid : Nat} (h : Mer_a L' a m b n y) (hs : a ≤ s) (hsm : s ≤ m) (hme : m ≤ e) (heb : e ≤ b) (hmid : mid = s + (e - m))
    (h12 : ∀ i j, a ≤ i → i < s → e ≤ j → j < b → tm_a y i ≤ tm_a y j) (h21 : ∀ i j, s ≤ i → i < m → m ≤ j → j < e → tm_a y j < tm_a y i) :
    ∃ y2 L3, Rot_a m n y2 (m - s) (e - m) y ∧ (s = m ∨ m = e → y2 = y) ∧ Mer_a L3 a s mid n y2 ∧ (a = s ∨ s = mid → L3 = y2) ∧ Mer_a L' mid e b n L3 ∧ (mid = e ∨ e = b → L' = L3) := by
  obtain ⟨P, A, C, Q, rfl, hP, hA, hC, ha, hc, rfl, hn⟩ := h
  obtain ⟨A1, A2, rfl, l1⟩ : ∃ A1 A2, A = A1 ++ A2 ∧ A1.length = s - a := ⟨A.take (s - a), A.drop (s - a), (List.take_append_drop _ _).symm, by rw [List.length_take]; omega⟩
  obtain ⟨C1, C2, rfl, l2⟩ : ∃ C1 C2, C = C1 ++ C2 ∧ C1.length = e - m := ⟨C.take (e - m), C.drop (e - m), (List.take_append_drop _ _).symm, by rw [List.length_take]; omega⟩
  rw [List.length_append] at hA hC
  have i1 : ∀ x ∈ A1, ∃ i, a ≤ i ∧ i < s ∧ tm_a (P ++ (A1 ++ A2 ++ (C1 ++ C2 ++ Q))) i = x.t := fun x hx => by
    obtain ⟨q, hq, rfl⟩ := List.getElem_of_mem hx
    refine ⟨a + q, by omega, by omega, tm_of_a ?_⟩
    rw [List.getElem?_append_right (by omega), List.append_assoc, List.getElem?_append_left (by omega), List.getElem?_eq_getElem (by omega)]
    congr 2; omega
  have i2 : ∀ x ∈ A2, ∃ i, s ≤ i ∧ i < m ∧ tm_a (P ++ (A1 ++ A2 ++ (C1 ++ C2 ++ Q))) i = x.t := fun x hx => by
    obtain ⟨q, hq, rfl⟩ := List.getElem_of_mem hx
    refine ⟨s + q, by omega, by omega, tm_of_a ?_⟩
    rw [List.getElem?_append_right (by omega), List.append_assoc, List.getElem?_append_right (by omega), List.getElem?_append_left (by omega), List.getElem?_eq_getElem (by omega)]
    congr 2; omega
  have j1 : ∀ x ∈ C1, ∃ i, m ≤ i ∧ i < e ∧ tm_a (P ++ (A1 ++ A2 ++ (C1 ++ C2 ++ Q))) i = x.t := fun x hx => by
    obtain ⟨q, hq, rfl⟩ := List.getElem_of_mem hx
    refine ⟨m + q, by omega, by omega, tm_of_a ?_⟩
    rw [List.getElem?_append_right (by omega), List.getElem?_append_right (by rw [List.length_append]; omega), List.append_assoc, List.getElem?_append_left (by rw [List.length_append]; omega), List.getElem?_eq_getElem (by rw [List.length_append]; omega)]
    congr 2; rw [List.length_append]; omega
  have j2 : ∀ x ∈ C2, ∃ i, e ≤ i ∧ i < b ∧ tm_a (P ++ (A1 ++ A2 ++ (C1 ++ C2 ++ Q))) i = x.t := fun x hx => by
    obtain ⟨q, hq, rfl⟩ := List.getElem_of_mem hx
    refine ⟨e + q, by omega, by omega, tm_of_a ?_⟩
    rw [List.getElem?_append_right (by omega), List.getElem?_append_right (by rw [List.length_append]; omega), List.append_assoc, List.getElem?_append_right (by rw [List.length_append]; omega), List.getElem?_append_left (by rw [List.length_append]; omega), List.getElem?_eq_getElem (by rw [List.length_append]; omega)]
    congr 2; rw [List.length_append]; omega
  have hsp := into_split_a A1 A2 C1 C2 (fun x hx y hy => by
    obtain ⟨i, k1, k2, k3⟩ := i1 x hx
    obtain ⟨j, k4, k5, k6⟩ := j2 y hy
    rw [← k3, ← k6]; exact h12 i j k1 k2 k4 k5) (fun y hy x hx => by
    obtain ⟨j, k4, k5, k6⟩ := j1 y hy
    obtain ⟨i, k1, k2, k3⟩ := i2 x hx
    rw [← k3, ← k6]; exact h21 i j k1 k2 k4 k5) hc
  clear i1 i2 j1 j2 h12 h21
  have hca := asc_append_a.1 ha
  have hcc := asc_append_a.1 hc
  refine ⟨P ++ (A1 ++ (C1 ++ (A2 ++ (C2 ++ Q)))), P ++ (into_a A1 C1 ++ (A2 ++ (C2 ++ Q))), ⟨P ++ A1, A2, C1, C2 ++ Q, by simp, by simp, by omega, by omega, by rw [List.length_append]; omega, hn⟩, ?_, ⟨P, A1, C1, A2 ++ (C2 ++ Q), rfl, hP, by omega, by omega, hca.1, hcc.1, rfl, ?_⟩, ?_, ⟨P ++ into_a A1 C1, A2, C2, Q, by simp, by rw [List.length_append, into_length_a]; omega, by omega, by omega, hca.2.1, hcc.2.1, by rw [hsp]; simp, ?_⟩, ?_⟩
  · rintro (h | h)
    · have : A2 = [] := List.length_eq_zero_iff.1 (by omega)
      subst this; simp
    · have : C1 = [] := List.length_eq_zero_iff.1 (by omega)
      subst this; simp
  · simp only [List.length_append] at hn ⊢; omega
  · rintro (h | h)
    · have : A1 = [] := List.length_eq_zero_iff.1 (by omega)
      subst this
      rw [show into_a [] C1 = C1 from isort_id_a C1 hcc.1]; rfl
    · have : C1 = [] := List.length_eq_zero_iff.1 (by omega)
      subst this; rfl
  · simp only [List.length_append, into_length_a] at hn ⊢; omega
  · rw [hsp]
    rintro (h | h)
    · have : A2 = [] := List.length_eq_zero_iff.1 (by omega)
      subst this
      rw [show into_a [] C2 = C2 from isort_id_a C2 hcc.2.1]; simp
    · have : C2 = [] := List.length_eq_zero_iff.1 (by omega)
      subst this; simp

set_option maxRecDepth 100000 in
set_option maxHeartbeats 3200000 in
theorem symOne13_a (B off n cap a m b : Nat) (L L' : List Pk_a) (hM : Mer_a L' a m b n L) (hm : m = a + 1) (hmb : m < b) (w : World) (h : PkO_a w B off L) (hn : n ≤ 1000) :
    Calls Tryz.prog 102 #[.slice (some ⟨B, off, none⟩) n cap, .int .i64 a, .int .i64 m, .int .i64 b, .func (.func 68) #[] #[]] w (Sorts_a B off L' w) := by
  have HM := Lib.hid hM
  have HMA := Lib.hid hm
  have H := Lib.hid h
  obtain ⟨bb1, bb2, bb3, bb4⟩ := hM.bounds
  have HL := Lib.hid bb4
  have eg : ∀ args w, (callFunc 68 args).run Tryz.prog w = .ok (.enter 68 args) w := enters_of Tryz.func68 (by kernel_rfl) rfl
  have mixed : Tryz.prog.follows .mixedOrders = true := by kernel_rfl
  have hmI : (m : Int) - (a : Int) = 1 := by omega
  clear hM h bb4 hm
  go_enter Tryz.func102, Tryz.ntmps102
  go_wp2_with fail
  go_loopw [10, 11] (fun v0 v1 wx => ∃ i j : Nat, v0 = .int .i64 i ∧ v1 = .int .i64 j ∧ m ≤ i ∧ i ≤ j ∧ j ≤ b ∧ Hid ((∀ k, m ≤ k → k < i → tm_a L k < tm_a L a) ∧ (∀ k, j ≤ k → k < b → ¬ tm_a L k < tm_a L a)) ∧ Hid (PkO_a wx B off L) ∧ Hid (Apart B w wx)) (fun v0 v1 _ => (intOf v1).toNat - (intOf v0).toNat)
  case atStart => exact ⟨m, b, rfl, rfl, Nat.le_refl _, by omega, Nat.le_refl _, ⟨fun k h1 h2 => by omega, fun k h1 h2 => by omega⟩, H, Apart.refl _ _⟩
  case round =>
    obtain ⟨i, j, rfl, rfl, li, lij, lj, HV, HO, HA⟩ := hrel
    obtain ⟨wk, rfl⟩ : ∃ u : World, u = wr := ⟨_, rfl⟩
    by_cases hlt : i < j
    · have hlI : (i : Int) < (j : Int) := by omega
      go_upto_region 5 with fail
      obtain ⟨h, hh⟩ : ∃ h : Nat, (i + j) / 2 = h := ⟨_, rfl⟩
      have hh2 : i ≤ h ∧ h < j := by omega
      rw [show ((i : Int) + (j : Int)) / 2 = (h : Int) by omega]
      obtain ⟨bh1, bh2⟩ := hh2
      have HH := Lib.hid hh
      clear hh
      have q1 : (h : Int) < (n : Int) := by omega
      have q2 : (a : Int) < (n : Int) := by omega
      obtain ⟨p, hp⟩ : ∃ p, L[h]? = some p := ⟨_, List.getElem?_eq_getElem (by rw [HL.out]; omega)⟩
      obtain ⟨q, hq⟩ : ∃ q, L[a]? = some q := ⟨_, List.getElem?_eq_getElem (by rw [HL.out]; omega)⟩
      obtain ⟨c0, c1, c2, c3⟩ := HO.out.gcells hp
      obtain ⟨d0, d1, d2, d3⟩ := HO.out.gcells hq
      have hcg := cmp13_g_a p q wk
      have HP := Lib.hid (And.intro (tm_of_a hp) (tm_of_a hq))
      clear hp hq
      by_cases hlv : p.t < q.t
      · have hs := sgn_lt hlv
        have HLV := Lib.hid (show tm_a L (h) < tm_a L (a) from by rw [HP.out.1, HP.out.2]; exact hlv)
        clear hlv
        generalize sgn p.t q.t = sg at hs hcg
        go_quiet_grown (first | (go_at_fn 68; refine Calls.grown_of (hcg _ _)) | (go_at_call 68; refine Calls.grown_of (hcg _ _)))
        have HW2 := Lib.hid (And.intro (HO.out.grown nq osq) (HA.out.trans (below_apart (below_grown wk nq osq))))
        clear c0 c1 c2 c3 d0 d1 d2 d3 hcg
        generalize grow (wk.drewN nq) osq = wq at HW2 ⊢
        go_wp2_with fail
        go_roundw
        case rel =>
          exact ⟨h + 1, j, by go_num, rfl, by omega, by omega, lj, ⟨fun k h1 h2 => by have := HM.out.ascR h1 (show k ≤ h by omega) (by omega); have := HLV.out; omega, HV.out.2⟩, HW2.out.1, HW2.out.2⟩
        case measure => first | (simp [intOf]; done) | (simp [intOf]; omega)
      · have hs := sgn_ge hlv
        have HLV := Lib.hid (show ¬ tm_a L (h) < tm_a L (a) from by rw [HP.out.1, HP.out.2]; exact hlv)
        clear hlv
        generalize sgn p.t q.t = sg at hs hcg
        go_quiet_grown (first | (go_at_fn 68; refine Calls.grown_of (hcg _ _)) | (go_at_call 68; refine Calls.grown_of (hcg _ _)))
        have HW2 := Lib.hid (And.intro (HO.out.grown nq osq) (HA.out.trans (below_apart (below_grown wk nq osq))))
        clear c0 c1 c2 c3 d0 d1 d2 d3 hcg
        generalize grow (wk.drewN nq) osq = wq at HW2 ⊢
        go_wp2_with fail
        go_roundw
        case rel =>
          exact ⟨i, h, rfl, by go_num, li, by omega, by omega, ⟨HV.out.1, fun k h1 h2 => by have := HM.out.ascR (show m ≤ h by omega) h1 h2; have := HLV.out; omega⟩, HW2.out.1, HW2.out.2⟩
        case measure => first | (simp [intOf]; done) | (simp [intOf]; omega)
    · obtain rfl : j = i := by omega
      have hlI : ¬ (j : Int) < (j : Int) := by omega
      obtain ⟨x, hx⟩ := HM.out.one HMA.out li lj HV.out.1 HV.out.2
      have HX := Lib.hid hx
      have hj1 : 1 ≤ j := by omega
      clear hx
      go_wp2_with fail
      go_loopw [13] (fun vk wx => ∃ (k : Nat) (z : List Pk_a), vk = .int .i64 k ∧ k ≤ b ∧ Hid (PkO_a wx B off z ∧ ShR_a L' n j k z x) ∧ Hid (Apart B w wx)) (fun vk _ => b + 1 - (intOf vk).toNat)
      case atStart => exact ⟨a, L, rfl, by omega, ⟨HO.out, HX.out⟩, HA⟩
      case round =>
        obtain ⟨k, z, rfl, hkb, HZ, HB⟩ := hrel
        obtain ⟨wz, rfl⟩ : ∃ u : World, u = wr := ⟨_, rfl⟩
        obtain ⟨k1, k2, k3, k4⟩ := HZ.out.2.bounds
        have HK := Lib.hid (And.intro k3 k4)
        clear k3 k4
        by_cases hkj : k + 1 < j
        · have hkI : (k : Int) < (j : Int) - 1 := by omega
          obtain ⟨p, hp⟩ : ∃ p, z[k + 1]? = some p := ⟨_, List.getElem?_eq_getElem (by rw [HK.out.1]; omega)⟩
          obtain ⟨c0, c1, c2, c3⟩ := HZ.out.1.cells _ _ HK.out.2
          obtain ⟨d0, d1, d2, d3⟩ := HZ.out.1.cells _ _ hp
          have hf := HZ.out.1.frozen
          have hst := Lib.hid (HZ.out.2.step hkj hp)
          have q1 : (k : Int) < (n : Int) := by omega
          have q2 : (k : Int) + 1 < (n : Int) := by omega
          have e0 : ((k : Int) + 1).toNat = k + 1 := by omega
          have p0 : (0 : Int) ≤ (k : Int) + 1 := by omega
          have gg0 : ¬ off + (k + 1) * 4 + 1 = off + k * 4 := by omega
          have gg1 : ¬ off + (k + 1) * 4 = off + k * 4 + 1 := by omega
          have gg2 : ¬ off + (k + 1) * 4 + 2 = off + k * 4 := by omega
          have gg3 : ¬ off + (k + 1) * 4 = off + k * 4 + 2 := by omega
          have gg4 : ¬ off + (k + 1) * 4 + 3 = off + k * 4 := by omega
          have gg5 : ¬ off + (k + 1) * 4 = off + k * 4 + 3 := by omega
          have gg6 : ¬ off + k * 4 + 1 = off + (k + 1) * 4 := by omega
          have gg7 : ¬ off + k * 4 = off + (k + 1) * 4 + 1 := by omega
          have gg8 : ¬ off + k * 4 + 2 = off + (k + 1) * 4 := by omega
          have gg9 : ¬ off + k * 4 = off + (k + 1) * 4 + 2 := by omega
          have gg10 : ¬ off + k * 4 + 3 = off + (k + 1) * 4 := by omega
          have gg11 : ¬ off + k * 4 = off + (k + 1) * 4 + 3 := by omega
          clear hp
          go_wp2_with fail
          go_region
          all_goals go_wp2_with fail
          go_roundw
          case rel =>
            refine ⟨k + 1, (z.set k p).set (k + 1) x, by go_num, by omega, ⟨?_, hst.out⟩, ?_⟩
            · exact ((HZ.out.1.set (by rw [HK.out.1]; omega) p).set (by rw [List.length_set, HK.out.1]; omega) x).drew
            · exact ((HB.out.set4 _ _ _ _ _ _ _ _).set4 _ _ _ _ _ _ _ _).drew
          case measure => first | (simp [intOf]; done) | (simp [intOf]; omega)
        · have hkI : ¬ (k : Int) < (j : Int) - 1 := by omega
          go_wp2_with fail
          refine bodyPost_ret (results_none rfl _ _ _) rfl ?_
          refine ⟨rfl, HB.out, ?_⟩
          rw [← HZ.out.2.stop hkj]
          exact HZ.out.1

set_option maxRecDepth 100000 in
set_option maxHeartbeats 3200000 in
theorem symTwo13_a (B off n cap a m b : Nat) (L L' : List Pk_a) (hM : Mer_a L' a m b n L) (hm : b = m + 1) (ham : a + 1 < m) (w : World) (h : PkO_a w B off L) (hn : n ≤ 1000) :
    Calls Tryz.prog 102 #[.slice (some ⟨B, off, none⟩) n cap, .int .i64 a, .int .i64 m, .int .i64 b, .func (.func 68) #[] #[]] w (Sorts_a B off L' w) := by
  have HM := Lib.hid hM
  have HMA := Lib.hid hm
  have H := Lib.hid h
  obtain ⟨bb1, bb2, bb3, bb4⟩ := hM.bounds
  have HL := Lib.hid bb4
  have eg : ∀ args w, (callFunc 68 args).run Tryz.prog w = .ok (.enter 68 args) w := enters_of Tryz.func68 (by kernel_rfl) rfl
  have mixed : Tryz.prog.follows .mixedOrders = true := by kernel_rfl
  have hmI : ((m : Int) - (a : Int) == 1) = false := by simp; omega
  have hbI : (b : Int) - (m : Int) = 1 := by omega
  clear hM h bb4 hm
  go_enter Tryz.func102, Tryz.ntmps102
  go_wp2_with fail
  go_loopw [14, 15] (fun v0 v1 wx => ∃ i j : Nat, v0 = .int .i64 i ∧ v1 = .int .i64 j ∧ a ≤ i ∧ i ≤ j ∧ j ≤ m ∧ Hid ((∀ k, a ≤ k → k < i → tm_a L k ≤ tm_a L m) ∧ (∀ k, j ≤ k → k < m → tm_a L m < tm_a L k)) ∧ Hid (PkO_a wx B off L) ∧ Hid (Apart B w wx)) (fun v0 v1 _ => (intOf v1).toNat - (intOf v0).toNat)
  case atStart => exact ⟨a, m, rfl, rfl, Nat.le_refl _, by omega, Nat.le_refl _, ⟨fun k h1 h2 => by omega, fun k h1 h2 => by omega⟩, H, Apart.refl _ _⟩
  case round =>
    obtain ⟨i, j, rfl, rfl, li, lij, lj, HV, HO, HA⟩ := hrel
    obtain ⟨wk, rfl⟩ : ∃ u : World, u = wr := ⟨_, rfl⟩
    by_cases hlt : i < j
    · have hlI : (i : Int) < (j : Int) := by omega
      go_upto_region 17 with fail
      obtain ⟨h, hh⟩ : ∃ h : Nat, (i + j) / 2 = h := ⟨_, rfl⟩
      have hh2 : i ≤ h ∧ h < j := by omega
      rw [show ((i : Int) + (j : Int)) / 2 = (h : Int) by omega]
      obtain ⟨bh1, bh2⟩ := hh2
      have HH := Lib.hid hh
      clear hh
      have q1 : (h : Int) < (n : Int) := by omega
      have q2 : (m : Int) < (n : Int) := by have := HMA.out; omega
      have q3 : m < n := by have := HMA.out; omega
      obtain ⟨p, hp⟩ : ∃ p, L[m]? = some p := ⟨_, List.getElem?_eq_getElem (by rw [HL.out]; omega)⟩
      obtain ⟨q, hq⟩ : ∃ q, L[h]? = some q := ⟨_, List.getElem?_eq_getElem (by rw [HL.out]; omega)⟩
      obtain ⟨c0, c1, c2, c3⟩ := HO.out.gcells hp
      obtain ⟨d0, d1, d2, d3⟩ := HO.out.gcells hq
      have hcg := cmp13_g_a p q wk
      have HP := Lib.hid (And.intro (tm_of_a hp) (tm_of_a hq))
      clear hp hq
      by_cases hlv : p.t < q.t
      · have hs := sgn_lt hlv
        have HLV := Lib.hid (show tm_a L (m) < tm_a L (h) from by rw [HP.out.1, HP.out.2]; exact hlv)
        clear hlv
        generalize sgn p.t q.t = sg at hs hcg
        go_quiet_grown (first | (go_at_fn 68; refine Calls.grown_of (hcg _ _)) | (go_at_call 68; refine Calls.grown_of (hcg _ _)))
        have HW2 := Lib.hid (And.intro (HO.out.grown nq osq) (HA.out.trans (below_apart (below_grown wk nq osq))))
        clear c0 c1 c2 c3 d0 d1 d2 d3 hcg
        generalize grow (wk.drewN nq) osq = wq at HW2 ⊢
        go_wp2_with fail
        go_roundw
        case rel =>
          first | exact ⟨i, h, rfl, by go_num, li, by omega, by omega, ⟨HV.out.1, fun k h1 h2 => by have := HM.out.ascL (show a ≤ h by omega) h1 h2; have := HLV.out; omega⟩, HW2.out.1, HW2.out.2⟩ | exact ⟨i, rfl, h, by go_num, li, by omega, by omega, ⟨HV.out.1, fun k h1 h2 => by have := HM.out.ascL (show a ≤ h by omega) h1 h2; have := HLV.out; omega⟩, HW2.out.1, HW2.out.2⟩
        case measure => first | (simp [intOf]; done) | (simp [intOf]; omega)
      · have hs := sgn_ge hlv
        have HLV := Lib.hid (show ¬ tm_a L (m) < tm_a L (h) from by rw [HP.out.1, HP.out.2]; exact hlv)
        clear hlv
        generalize sgn p.t q.t = sg at hs hcg
        go_quiet_grown (first | (go_at_fn 68; refine Calls.grown_of (hcg _ _)) | (go_at_call 68; refine Calls.grown_of (hcg _ _)))
        have HW2 := Lib.hid (And.intro (HO.out.grown nq osq) (HA.out.trans (below_apart (below_grown wk nq osq))))
        clear c0 c1 c2 c3 d0 d1 d2 d3 hcg
        generalize grow (wk.drewN nq) osq = wq at HW2 ⊢
        go_wp2_with fail
        go_roundw
        case rel =>
          first | exact ⟨h + 1, j, by go_num, rfl, by omega, by omega, lj, ⟨fun k h1 h2 => by have := HM.out.ascL h1 (show k ≤ h by omega) (by omega); have := HLV.out; omega, HV.out.2⟩, HW2.out.1, HW2.out.2⟩ | exact ⟨h + 1, by go_num, j, rfl, by omega, by omega, lj, ⟨fun k h1 h2 => by have := HM.out.ascL h1 (show k ≤ h by omega) (by omega); have := HLV.out; omega, HV.out.2⟩, HW2.out.1, HW2.out.2⟩
        case measure => first | (simp [intOf]; done) | (simp [intOf]; omega)
    · obtain rfl : j = i := by omega
      have hlI : ¬ (j : Int) < (j : Int) := by omega
      obtain ⟨x, hx⟩ := HM.out.two HMA.out li lj (fun k h1 h2 => by have := HV.out.1 k h1 h2; omega) HV.out.2
      have HX := Lib.hid hx
      clear hx
      go_wp2_with fail
      go_loopw [17] (fun vk wx => ∃ (k : Nat) (z : List Pk_a), vk = .int .i64 k ∧ k ≤ m ∧ Hid (PkO_a wx B off z ∧ ShL_a L' n j k z x) ∧ Hid (Apart B w wx)) (fun vk _ => (intOf vk).toNat)
      case atStart => exact ⟨m, L, rfl, Nat.le_refl _, ⟨HO.out, HX.out⟩, HA⟩
      case round =>
        obtain ⟨k, z, rfl, hkb, HZ, HB⟩ := hrel
        obtain ⟨wz, rfl⟩ : ∃ u : World, u = wr := ⟨_, rfl⟩
        obtain ⟨k1, k2, k3, k4⟩ := HZ.out.2.bounds
        have HK := Lib.hid (And.intro k3 k4)
        clear k3 k4
        by_cases hkj : j < k
        · obtain ⟨r, rfl⟩ : ∃ r, k = r + 1 := ⟨k - 1, by omega⟩
          have hkI : (j : Int) < (r : Int) + 1 := by omega
          obtain ⟨p, hp⟩ : ∃ p, z[r]? = some p := ⟨_, List.getElem?_eq_getElem (by rw [HK.out.1]; omega)⟩
          obtain ⟨c0, c1, c2, c3⟩ := HZ.out.1.cells _ _ HK.out.2
          obtain ⟨d0, d1, d2, d3⟩ := HZ.out.1.cells _ _ hp
          have hf := HZ.out.1.frozen
          have hst := Lib.hid (HZ.out.2.step hkj hp)
          have q1 : (r : Int) < (n : Int) := by omega
          have q2 : (r : Int) + 1 < (n : Int) := by omega
          have e0 : ((r : Int) + 1).toNat = r + 1 := by omega
          have p0 : (0 : Int) ≤ (r : Int) + 1 := by omega
          have gg0 : ¬ off + (r + 1) * 4 + 1 = off + r * 4 := by omega
          have gg1 : ¬ off + (r + 1) * 4 = off + r * 4 + 1 := by omega
          have gg2 : ¬ off + (r + 1) * 4 + 2 = off + r * 4 := by omega
          have gg3 : ¬ off + (r + 1) * 4 = off + r * 4 + 2 := by omega
          have gg4 : ¬ off + (r + 1) * 4 + 3 = off + r * 4 := by omega
          have gg5 : ¬ off + (r + 1) * 4 = off + r * 4 + 3 := by omega
          have gg6 : ¬ off + r * 4 + 1 = off + (r + 1) * 4 := by omega
          have gg7 : ¬ off + r * 4 = off + (r + 1) * 4 + 1 := by omega
          have gg8 : ¬ off + r * 4 + 2 = off + (r + 1) * 4 := by omega
          have gg9 : ¬ off + r * 4 = off + (r + 1) * 4 + 2 := by omega
          have gg10 : ¬ off + r * 4 + 3 = off + (r + 1) * 4 := by omega
          have gg11 : ¬ off + r * 4 = off + (r + 1) * 4 + 3 := by omega
          clear hp
          go_wp2_with fail
          go_region
          all_goals go_wp2_with fail
          go_roundw
          case rel =>
            refine ⟨r, (z.set (r + 1) p).set r x, by go_num, by omega, ⟨?_, hst.out⟩, ?_⟩
            · exact ((HZ.out.1.set (by rw [HK.out.1]; omega) p).set (by rw [List.length_set, HK.out.1]; omega) x).drew
            · exact ((HB.out.set4 _ _ _ _ _ _ _ _).set4 _ _ _ _ _ _ _ _).drew
          case measure => first | (simp [intOf]; done) | (simp [intOf]; omega)
        · have hkI : ¬ (j : Int) < (k : Int) := by omega
          go_wp2_with fail
          refine bodyPost_ret (results_none rfl _ _ _) rfl ?_
          refine ⟨rfl, HB.out, ?_⟩
          rw [← HZ.out.2.stop hkj]
          exact HZ.out.1

set_option maxRecDepth 100000 in
set_option maxHeartbeats 6400000 in
theorem symGen13_a (B off n cap a m b : Nat) (L L' : List Pk_a) (hM : Mer_a L' a m b n L) (ham : a + 1 < m) (hmb : m + 1 < b) (w : World) (h : PkO_a w B off L) (hn : n ≤ 1000)
    (ih : ∀ (a' m' b' : Nat) (y y' : List Pk_a) (u : World), Mer_a y' a' m' b' n y → b' - a' < b - a → a' < m' → m' < b' → PkO_a u B off y →
      Calls Tryz.prog 102 #[.slice (some ⟨B, off, none⟩) n cap, .int .i64 a', .int .i64 m', .int .i64 b', .func (.func 68) #[] #[]] u (Sorts_a B off y' u)) :
    Calls Tryz.prog 102 #[.slice (some ⟨B, off, none⟩) n cap, .int .i64 a, .int .i64 m, .int .i64 b, .func (.func 68) #[] #[]] w (Sorts_a B off L' w) := by
  have HM := Lib.hid hM
  have H := Lib.hid h
  have IH := Lib.hid ih
  obtain ⟨bb1, bb2, bb3, bb4⟩ := hM.bounds
  have HL := Lib.hid bb4
  have eg : ∀ args w, (callFunc 68 args).run Tryz.prog w = .ok (.enter 68 args) w := enters_of Tryz.func68 (by kernel_rfl) rfl
  have mixed : Tryz.prog.follows .mixedOrders = true := by kernel_rfl
  have hmI : ((m : Int) - (a : Int) == 1) = false := by simp; omega
  have hbI : ((b : Int) - (m : Int) == 1) = false := by simp; omega
  clear hM h bb4 ih
  obtain ⟨md, hmd⟩ : ∃ md : Nat, (a + b) / 2 = md := ⟨_, rfl⟩
  obtain ⟨N0, hN0⟩ : ∃ N0 : Nat, md + m = N0 := ⟨_, rfl⟩
  obtain ⟨pp, hpp⟩ : ∃ pp : Nat, N0 - 1 = pp := ⟨_, rfl⟩
  have E1 : ((a : Int) + (b : Int)) / 2 = (md : Int) := by omega
  have E2 : (md : Int) + (m : Int) = (N0 : Int) := by omega
  have E3 : (N0 : Int) - 1 = (pp : Int) := by omega
  have bmd : a < md ∧ md < b ∧ md ≤ 1000 ∧ N0 ≤ 2000 ∧ pp ≤ 2000 := by omega
  have HMD := Lib.hid (And.intro hmd (And.intro hN0 hpp))
  obtain ⟨bmd1, bmd2, bmd3, bmd4, bmd5⟩ := bmd
  clear hmd hN0 hpp
  obtain ⟨s0, r0, hs0⟩ : ∃ s0 r0 : Nat, (m > md → s0 + b = N0 ∧ r0 = md) ∧ (¬ m > md → s0 = a ∧ r0 = m) := by
    by_cases hc : m > md
    · exact ⟨N0 - b, md, fun _ => ⟨by have := HMD.out; omega, rfl⟩, fun h => absurd hc h⟩
    · exact ⟨a, m, fun h => absurd h hc, fun _ => ⟨rfl, rfl⟩⟩
  have HBD := Lib.hid (show a ≤ s0 ∧ s0 ≤ r0 ∧ r0 ≤ m ∧ r0 ≤ md ∧ N0 ≤ s0 + b ∧ md + m = N0 ∧ pp + 1 = N0 ∧ (s0 = a ∨ s0 + b = N0) ∧ (r0 = m ∨ r0 = md) from by
    have h1 := HMD.out
    by_cases hc : m > md
    · have := hs0.1 hc; omega
    · have := hs0.2 hc; omega)
  have HS0 := Lib.hid hs0
  clear hs0
  go_enter Tryz.func102, Tryz.ntmps102
  go_upto_if 140 with fail
  go_cut [20, 21] (fun s20 s21 wx => s20 = .int .i64 (s0 : Nat) ∧ s21 = .int .i64 (r0 : Nat) ∧ wx = w)
  case first =>
    by_cases hc : m > md
    · have hcI : (md : Int) < (m : Int) := by omega
      have hz := HS0.out.1 hc
      have ez : (N0 : Int) - (b : Int) = (s0 : Int) := by omega
      have er : r0 = md := hz.2
      clear hz
      go_wp2_with fail
      go_meet
      case rel => exact ⟨by first | rfl | rw [ez], by rw [er], rfl⟩
    · have hcI : ¬ (md : Int) < (m : Int) := by omega
      have hz := HS0.out.2 hc
      have es : s0 = a := hz.1
      have er : r0 = m := hz.2
      clear hz
      go_wp2_with fail
      go_meet
      case rel => exact ⟨by rw [es], by rw [er], rfl⟩
  case rest =>
    obtain ⟨rfl, rfl, hwc⟩ := hcut
    rw [hwc]
    clear hwc
    obtain ⟨bs0, bs1, bs2, bs3, _⟩ := HBD.out
    go_wp2_with fail
    go_loopw [20, 21] (fun v0 v1 wx => ∃ i j : Nat, v0 = .int .i64 i ∧ v1 = .int .i64 j ∧ s0 ≤ i ∧ i ≤ j ∧ j ≤ r0 ∧ Hid ((∀ k, s0 ≤ k → k < i → tm_a L k ≤ tm_a L (pp - k)) ∧ (∀ k, j ≤ k → k < r0 → tm_a L (pp - k) < tm_a L k)) ∧ Hid (PkO_a wx B off L) ∧ Hid (Apart B w wx)) (fun v0 v1 _ => (intOf v1).toNat - (intOf v0).toNat)
    case atStart => exact ⟨s0, r0, rfl, rfl, Nat.le_refl _, by omega, Nat.le_refl _, ⟨fun k h1 h2 => by omega, fun k h1 h2 => by omega⟩, H, Apart.refl _ _⟩
    case round =>
      obtain ⟨i, j, rfl, rfl, li, lij, lj, HV, HO, HA⟩ := hrel
      obtain ⟨wk, rfl⟩ : ∃ u : World, u = wr := ⟨_, rfl⟩
      by_cases hlt : i < j
      · have hlI : (i : Int) < (j : Int) := by omega
        go_upto_region 35 with fail
        obtain ⟨h, hh⟩ : ∃ h : Nat, (i + j) / 2 = h := ⟨_, rfl⟩
        have hh2 : i ≤ h ∧ h < j := by omega
        rw [show ((i : Int) + (j : Int)) / 2 = (h : Int) by omega]
        obtain ⟨bh1, bh2⟩ := hh2
        have HH := Lib.hid hh
        clear hh
        have hbd := HBD.out
        obtain ⟨d, hd⟩ : ∃ d : Nat, pp - h = d := ⟨_, rfl⟩
        have eD : (pp : Int) - (h : Int) = (d : Int) := by omega
        have q1 : (h : Int) < (n : Int) := by omega
        have q3 : d < n := by omega
        have q2 : (d : Int) < (n : Int) := by omega
        have hwd : IntKind.i64.wrap (d : Int) = (d : Int) := IntWalk.i64_in _ ⟨by omega, by omega⟩
        have HD := Lib.hid hd
        clear hbd hd
        obtain ⟨p, hp⟩ : ∃ p, L[d]? = some p := ⟨_, List.getElem?_eq_getElem (by rw [HL.out]; omega)⟩
        obtain ⟨q, hq⟩ : ∃ q, L[h]? = some q := ⟨_, List.getElem?_eq_getElem (by rw [HL.out]; omega)⟩
        obtain ⟨c0, c1, c2, c3⟩ := HO.out.gcells hp
        obtain ⟨d0, d1, d2, d3⟩ := HO.out.gcells hq
        have hcg := cmp13_g_a p q wk
        have HP := Lib.hid (And.intro (tm_of_a hp) (tm_of_a hq))
        clear hp hq
        by_cases hlv : p.t < q.t
        · have hs := sgn_lt hlv
          have HLV := Lib.hid (show tm_a L (d) < tm_a L (h) from by rw [HP.out.1, HP.out.2]; exact hlv)
          clear hlv
          generalize sgn p.t q.t = sg at hs hcg
          go_quiet_grown (first | (go_at_fn 68; refine Calls.grown_of (hcg _ _)) | (go_at_call 68; refine Calls.grown_of (hcg _ _)))
          have HW2 := Lib.hid (And.intro (HO.out.grown nq osq) (HA.out.trans (below_apart (below_grown wk nq osq))))
          clear c0 c1 c2 c3 d0 d1 d2 d3 hcg
          generalize grow (wk.drewN nq) osq = wq at HW2 ⊢
          go_wp2_with fail
          go_roundw
          case rel =>
            first | exact ⟨i, h, rfl, by go_num, li, by omega, by omega, ⟨HV.out.1, fun k h1 h2 => by have hb := HBD.out; have u1 := HM.out.ascL (show a ≤ h by omega) h1 (show k < m by omega); have u2 := HM.out.ascR (show m ≤ pp - k by omega) (show pp - k ≤ pp - h by omega) (by omega); have u3 := HLV.out; rw [← HD.out] at u3; omega⟩, HW2.out.1, HW2.out.2⟩ | exact ⟨i, rfl, h, by go_num, li, by omega, by omega, ⟨HV.out.1, fun k h1 h2 => by have hb := HBD.out; have u1 := HM.out.ascL (show a ≤ h by omega) h1 (show k < m by omega); have u2 := HM.out.ascR (show m ≤ pp - k by omega) (show pp - k ≤ pp - h by omega) (by omega); have u3 := HLV.out; rw [← HD.out] at u3; omega⟩, HW2.out.1, HW2.out.2⟩
          case measure => first | (simp [intOf]; done) | (simp [intOf]; omega)
        · have hs := sgn_ge hlv
          have HLV := Lib.hid (show ¬ tm_a L (d) < tm_a L (h) from by rw [HP.out.1, HP.out.2]; exact hlv)
          clear hlv
          generalize sgn p.t q.t = sg at hs hcg
          go_quiet_grown (first | (go_at_fn 68; refine Calls.grown_of (hcg _ _)) | (go_at_call 68; refine Calls.grown_of (hcg _ _)))
          have HW2 := Lib.hid (And.intro (HO.out.grown nq osq) (HA.out.trans (below_apart (below_grown wk nq osq))))
          clear c0 c1 c2 c3 d0 d1 d2 d3 hcg
          generalize grow (wk.drewN nq) osq = wq at HW2 ⊢
          go_wp2_with fail
          go_roundw
          case rel =>
            first | exact ⟨h + 1, j, by go_num, rfl, by omega, by omega, lj, ⟨fun k h1 h2 => by have hb := HBD.out; have u1 := HM.out.ascL (show a ≤ k by omega) (show k ≤ h by omega) (show h < m by omega); have u2 := HM.out.ascR (show m ≤ pp - h by omega) (show pp - h ≤ pp - k by omega) (by omega); have u3 := HLV.out; rw [← HD.out] at u3; omega, HV.out.2⟩, HW2.out.1, HW2.out.2⟩ | exact ⟨h + 1, by go_num, j, rfl, by omega, by omega, lj, ⟨fun k h1 h2 => by have hb := HBD.out; have u1 := HM.out.ascL (show a ≤ k by omega) (show k ≤ h by omega) (show h < m by omega); have u2 := HM.out.ascR (show m ≤ pp - h by omega) (show pp - h ≤ pp - k by omega) (by omega); have u3 := HLV.out; rw [← HD.out] at u3; omega, HV.out.2⟩, HW2.out.1, HW2.out.2⟩
          case measure => first | (simp [intOf]; done) | (simp [intOf]; omega)
      · obtain rfl : j = i := by omega
        have hlI : ¬ (j : Int) < (j : Int) := by omega
        obtain ⟨e, he⟩ : ∃ e : Nat, N0 - j = e := ⟨_, rfl⟩
        have hbd := HBD.out
        have E4 : (N0 : Int) - (j : Int) = (e : Int) := by omega
        obtain ⟨f1, f2, f3, f4, f5, f6⟩ : a ≤ j ∧ j ≤ m ∧ m ≤ e ∧ e ≤ b ∧ md = j + (e - m) ∧ e ≤ n := by omega
        obtain ⟨y2, L3, hR, hRn, hM1, hM1n, hM2, hM2n⟩ := HM.out.split f1 f2 f3 f4 f5
          (fun i' j' h1 h2 h3 h4 => by
            rcases Nat.lt_or_ge s0 j with hc | hc
            · have u1 := HM.out.ascL h1 (show i' ≤ j - 1 by omega) (by omega)
              have u2 := HV.out.1 (j - 1) (by omega) (by omega)
              have u3 := HM.out.ascR f3 h3 h4
              rw [show pp - (j - 1) = e by omega] at u2
              omega
            · omega)
          (fun i' j' h1 h2 h3 h4 => by
            rcases Nat.lt_or_ge j r0 with hc | hc
            · have u1 := HM.out.ascL (show a ≤ j by omega) h1 h2
              have u2 := HV.out.2 j (Nat.le_refl _) hc
              have u3 := HM.out.ascR h3 (show j' ≤ e - 1 by omega) (by omega)
              rw [show pp - j = e - 1 by omega] at u2
              omega
            · omega)
        have HSP := Lib.hid (And.intro hR (And.intro hRn (And.intro hM1 (And.intro hM1n (And.intro hM2 hM2n)))))
        have HF := Lib.hid (And.intro he f5)
        clear hbd hR hRn hM1 hM1n hM2 hM2n he f5
        have g1000 : e ≤ 1000 := by omega
        by_cases gX : j < m
        · by_cases gY : m < e
          · by_cases gU : a < j
            · by_cases gV : e < b
              · as_aux_lemma =>
                  have i0 : (j : Int) < (m : Int) := by have := HF.out; omega
                  have i1 : (m : Int) < (e : Int) := by have := HF.out; omega
                  have i2 : (a : Int) < (j : Int) := by have := HF.out; omega
                  have i3 : (j : Int) < (md : Int) := by have := HF.out; omega
                  have i4 : (md : Int) < (e : Int) := by have := HF.out; omega
                  have i5 : (e : Int) < (b : Int) := by have := HF.out; omega
                  go_wp2_with fail
                  refine (rotate13_a B off n cap j m e (m - j) (e - m) L y2 HSP.out.1 (by omega) (by omega) (by omega) (by omega) _ wk HO.out hn).mono ?_
                  rintro e' w1 ⟨rfl, ha1, ho1⟩
                  have HS1 := Lib.hid (And.intro (HA.out.trans ha1) ho1)
                  clear ha1 ho1
                  go_wp2_with fail
                  refine (IH.out a j md y2 L3 w1 HSP.out.2.2.1 (by omega) (by omega) (by have := HF.out; omega) HS1.out.2).mono ?_
                  rintro e' w2 ⟨rfl, ha1, ho1⟩
                  have HS2 := Lib.hid (And.intro (HS1.out.1.trans ha1) ho1)
                  clear ha1 ho1
                  go_wp2_with fail
                  refine (IH.out md e b L3 L' w2 HSP.out.2.2.2.2.1 (by omega) (by have := HF.out; omega) (by omega) HS2.out.2).mono ?_
                  rintro e' w3 ⟨rfl, ha1, ho1⟩
                  have HS3 := Lib.hid (And.intro (HS2.out.1.trans ha1) ho1)
                  clear ha1 ho1
                  go_wp2_with fail
                  go_end0
                  exact ⟨rfl, HS3.out.1, HS3.out.2⟩
              · as_aux_lemma =>
                  have i0 : (j : Int) < (m : Int) := by have := HF.out; omega
                  have i1 : (m : Int) < (e : Int) := by have := HF.out; omega
                  have i2 : (a : Int) < (j : Int) := by have := HF.out; omega
                  have i3 : (j : Int) < (md : Int) := by have := HF.out; omega
                  have i4 : (md : Int) < (e : Int) := by have := HF.out; omega
                  have i5 : ¬ (e : Int) < (b : Int) := by have := HF.out; omega
                  go_wp2_with fail
                  refine (rotate13_a B off n cap j m e (m - j) (e - m) L y2 HSP.out.1 (by omega) (by omega) (by omega) (by omega) _ wk HO.out hn).mono ?_
                  rintro e' w1 ⟨rfl, ha1, ho1⟩
                  have HS1 := Lib.hid (And.intro (HA.out.trans ha1) ho1)
                  clear ha1 ho1
                  go_wp2_with fail
                  refine (IH.out a j md y2 L3 w1 HSP.out.2.2.1 (by omega) (by omega) (by have := HF.out; omega) HS1.out.2).mono ?_
                  rintro e' w2 ⟨rfl, ha1, ho1⟩
                  have HS2 := Lib.hid (And.intro (HS1.out.1.trans ha1) ho1)
                  clear ha1 ho1
                  go_wp2_with fail
                  have HS3 := Lib.hid (And.intro HS2.out.1 (show PkO_a w2 B off L' from by rw [HSP.out.2.2.2.2.2 (by have := HF.out; omega)]; exact HS2.out.2))
                  go_end0
                  exact ⟨rfl, HS3.out.1, HS3.out.2⟩
            · by_cases gV : e < b
              · as_aux_lemma =>
                  have i0 : (j : Int) < (m : Int) := by have := HF.out; omega
                  have i1 : (m : Int) < (e : Int) := by have := HF.out; omega
                  have i2 : ¬ (a : Int) < (j : Int) := by have := HF.out; omega
                  have i3 : (md : Int) < (e : Int) := by have := HF.out; omega
                  have i4 : (e : Int) < (b : Int) := by have := HF.out; omega
                  go_wp2_with fail
                  refine (rotate13_a B off n cap j m e (m - j) (e - m) L y2 HSP.out.1 (by omega) (by omega) (by omega) (by omega) _ wk HO.out hn).mono ?_
                  rintro e' w1 ⟨rfl, ha1, ho1⟩
                  have HS1 := Lib.hid (And.intro (HA.out.trans ha1) ho1)
                  clear ha1 ho1
                  go_wp2_with fail
                  have HS2 := Lib.hid (And.intro HS1.out.1 (show PkO_a w1 B off L3 from by rw [HSP.out.2.2.2.1 (by have := HF.out; omega)]; exact HS1.out.2))
                  refine (IH.out md e b L3 L' w1 HSP.out.2.2.2.2.1 (by omega) (by have := HF.out; omega) (by omega) HS2.out.2).mono ?_
                  rintro e' w3 ⟨rfl, ha1, ho1⟩
                  have HS3 := Lib.hid (And.intro (HS2.out.1.trans ha1) ho1)
                  clear ha1 ho1
                  go_wp2_with fail
                  go_end0
                  exact ⟨rfl, HS3.out.1, HS3.out.2⟩
              · as_aux_lemma =>
                  have i0 : (j : Int) < (m : Int) := by have := HF.out; omega
                  have i1 : (m : Int) < (e : Int) := by have := HF.out; omega
                  have i2 : ¬ (a : Int) < (j : Int) := by have := HF.out; omega
                  have i3 : (md : Int) < (e : Int) := by have := HF.out; omega
                  have i4 : ¬ (e : Int) < (b : Int) := by have := HF.out; omega
                  go_wp2_with fail
                  refine (rotate13_a B off n cap j m e (m - j) (e - m) L y2 HSP.out.1 (by omega) (by omega) (by omega) (by omega) _ wk HO.out hn).mono ?_
                  rintro e' w1 ⟨rfl, ha1, ho1⟩
                  have HS1 := Lib.hid (And.intro (HA.out.trans ha1) ho1)
                  clear ha1 ho1
                  go_wp2_with fail
                  have HS2 := Lib.hid (And.intro HS1.out.1 (show PkO_a w1 B off L3 from by rw [HSP.out.2.2.2.1 (by have := HF.out; omega)]; exact HS1.out.2))
                  have HS3 := Lib.hid (And.intro HS2.out.1 (show PkO_a w1 B off L' from by rw [HSP.out.2.2.2.2.2 (by have := HF.out; omega)]; exact HS2.out.2))
                  go_end0
                  exact ⟨rfl, HS3.out.1, HS3.out.2⟩
          · as_aux_lemma =>
              have i0 : (j : Int) < (m : Int) := by have := HF.out; omega
              have i1 : ¬ (m : Int) < (e : Int) := by have := HF.out; omega
              have i2 : (a : Int) < (j : Int) := by have := HF.out; omega
              have i3 : ¬ (j : Int) < (md : Int) := by have := HF.out; omega
              have i4 : (md : Int) < (e : Int) := by have := HF.out; omega
              have i5 : (e : Int) < (b : Int) := by have := HF.out; omega
              go_wp2_with fail
              have HS1 := Lib.hid (And.intro HA.out (show PkO_a wk B off y2 from by rw [HSP.out.2.1 (by omega)]; exact HO.out))
              have HS2 := Lib.hid (And.intro HS1.out.1 (show PkO_a wk B off L3 from by rw [HSP.out.2.2.2.1 (by have := HF.out; omega)]; exact HS1.out.2))
              refine (IH.out md e b L3 L' wk HSP.out.2.2.2.2.1 (by omega) (by have := HF.out; omega) (by omega) HS2.out.2).mono ?_
              rintro e' w3 ⟨rfl, ha1, ho1⟩
              have HS3 := Lib.hid (And.intro (HS2.out.1.trans ha1) ho1)
              clear ha1 ho1
              go_wp2_with fail
              go_end0
              exact ⟨rfl, HS3.out.1, HS3.out.2⟩
        · by_cases gY : m < e
          · as_aux_lemma =>
              have i0 : ¬ (j : Int) < (m : Int) := by have := HF.out; omega
              have i1 : (a : Int) < (j : Int) := by have := HF.out; omega
              have i2 : (j : Int) < (md : Int) := by have := HF.out; omega
              have i3 : ¬ (md : Int) < (e : Int) := by have := HF.out; omega
              go_wp2_with fail
              have HS1 := Lib.hid (And.intro HA.out (show PkO_a wk B off y2 from by rw [HSP.out.2.1 (by omega)]; exact HO.out))
              refine (IH.out a j md y2 L3 wk HSP.out.2.2.1 (by omega) (by omega) (by have := HF.out; omega) HS1.out.2).mono ?_
              rintro e' w2 ⟨rfl, ha1, ho1⟩
              have HS2 := Lib.hid (And.intro (HS1.out.1.trans ha1) ho1)
              clear ha1 ho1
              go_wp2_with fail
              have HS3 := Lib.hid (And.intro HS2.out.1 (show PkO_a w2 B off L' from by rw [HSP.out.2.2.2.2.2 (by have := HF.out; omega)]; exact HS2.out.2))
              go_end0
              exact ⟨rfl, HS3.out.1, HS3.out.2⟩
          · as_aux_lemma =>
              have i0 : ¬ (j : Int) < (m : Int) := by have := HF.out; omega
              have i1 : (a : Int) < (j : Int) := by have := HF.out; omega
              have i2 : ¬ (j : Int) < (md : Int) := by have := HF.out; omega
              have i3 : ¬ (md : Int) < (e : Int) := by have := HF.out; omega
              go_wp2_with fail
              have HS1 := Lib.hid (And.intro HA.out (show PkO_a wk B off y2 from by rw [HSP.out.2.1 (by omega)]; exact HO.out))
              have HS2 := Lib.hid (And.intro HS1.out.1 (show PkO_a wk B off L3 from by rw [HSP.out.2.2.2.1 (by have := HF.out; omega)]; exact HS1.out.2))
              have HS3 := Lib.hid (And.intro HS2.out.1 (show PkO_a wk B off L' from by rw [HSP.out.2.2.2.2.2 (by have := HF.out; omega)]; exact HS2.out.2))
              go_end0
              exact ⟨rfl, HS3.out.1, HS3.out.2⟩

end Go.Proofs.YtkienpbmoilheaaGreat

namespace Go.Proofs.YtkienpbmoilheaaGreat
open Go.RowKit Go.Sort
set_option linter.unusedSimpArgs false
set_option linter.unusedVariables false


theorem symMerge13_a (B off n cap : Nat) (hn : n ≤ 1000) : ∀ (d a m b : Nat) (L L' : List Pk_a) (w : World), b - a ≤ d → Mer_a L' a m b n L → a < m → m < b → PkO_a w B off L →
    Calls Tryz.prog 102 #[.slice (some ⟨B, off, none⟩) n cap, .int .i64 a, .int .i64 m, .int .i64 b, .func (.func 68) #[] #[]] w (Sorts_a B off L' w)
  | 0, a, m, b, L, L', w, hd, hM, h1, h2, h => by omega
  | d + 1, a, m, b, L, L', w, hd, hM, h1, h2, h => by
    by_cases c1 : m = a + 1
    · exact symOne13_a B off n cap a m b L L' hM c1 h2 w h hn
    · by_cases c2 : b = m + 1
      · exact symTwo13_a B off n cap a m b L L' hM c2 (by omega) w h hn
      · exact symGen13_a B off n cap a m b L L' hM (by omega) (by omega) w h hn (fun a' m' b' y y' u hM' hlt h1' h2' h' => symMerge13_a B off n cap hn d a' m' b' y y' u (by omega) hM' h1' h2' h')

/-- k blocks of bs packets each, in order; and what they were. -/
def Fl_a (bs : Nat) : Nat → List Pk_a → List Pk_a → Prop
  | 0, Z, lZ => Z = [] ∧ lZ = []
  | k + 1, Z, lZ => ∃ X Z' lZ', X.length = bs ∧ Z = isort_a X ++ Z' ∧ lZ = X ++ lZ' ∧ Fl_a bs k Z' lZ'
theorem Fl_a.len {bs : Nat} : ∀ {k : Nat} {Z lZ : List Pk_a}, Fl_a bs k Z lZ → Z.length = k * bs ∧ lZ.length = k * bs
  | 0, Z, lZ, h => by obtain ⟨rfl, rfl⟩ := h; simp
  | k + 1, Z, lZ, h => by
    obtain ⟨X, Z', lZ', hX, rfl, rfl, h'⟩ := h
    obtain ⟨h1, h2⟩ := Fl_a.len h'
    rw [List.length_append, List.length_append, isort_length_a, Nat.add_mul, h1, h2]
    omega
theorem Fl_a.snoc {bs : Nat} {X : List Pk_a} (hX : X.length = bs) : ∀ {k : Nat} {Z lZ : List Pk_a}, Fl_a bs k Z lZ → Fl_a bs (k + 1) (Z ++ isort_a X) (lZ ++ X)
  | 0, Z, lZ, h => by obtain ⟨rfl, rfl⟩ := h; exact ⟨X, [], [], hX, by simp, by simp, rfl, rfl⟩
  | k + 1, Z, lZ, h => by
    obtain ⟨Y, Z', lZ', hY, rfl, rfl, h'⟩ := h
    exact ⟨Y, Z' ++ isort_a X, lZ' ++ X, hY, by simp, by simp, Fl_a.snoc hX h'⟩
/-- The first loop. -/
def St1_a (l : List Pk_a) (a : Nat) (y : List Pk_a) : Prop := ∃ k Z lZ r, y = Z ++ r ∧ l = lZ ++ r ∧ Fl_a 20 k Z lZ ∧ Z.length = a
/-- Blocks of bs packets in order, and a shorter one. -/
def Full_a (l : List Pk_a) (bs : Nat) (y : List Pk_a) : Prop := ∃ k Z lZ r, y = Z ++ isort_a r ∧ l = lZ ++ r ∧ Fl_a bs k Z lZ ∧ r.length < bs
theorem St1_a.start (l : List Pk_a) : St1_a l 0 l := ⟨0, [], [], l, rfl, rfl, ⟨rfl, rfl⟩, rfl⟩
theorem St1_a.len {l y : List Pk_a} {a : Nat} (h : St1_a l a y) : y.length = l.length ∧ a ≤ l.length := by
  obtain ⟨k, Z, lZ, r, rfl, rfl, hf, ha⟩ := h
  have := hf.len
  simp only [List.length_append]; omega
theorem St1_a.step {l y : List Pk_a} {a : Nat} (h : St1_a l a y) (hb : a + 20 ≤ l.length) : ∃ L', InsO_a L' a (a + 20) l.length 1 y ∧ St1_a l (a + 20) L' := by
  have hl := h.len.1
  obtain ⟨k, Z, lZ, r, rfl, rfl, hf, ha⟩ := h
  have hz := hf.len
  have e : r.take 20 ++ r.drop 20 = r := List.take_append_drop 20 r
  have hr : (r.take 20).length = 20 := by rw [List.length_take]; simp only [List.length_append] at hb; omega
  refine ⟨Z ++ (isort_a (r.take 20) ++ r.drop 20), ?_, k + 1, Z ++ isort_a (r.take 20), lZ ++ r.take 20, r.drop 20, by simp, by rw [List.append_assoc, e], hf.snoc hr, by rw [List.length_append, isort_length_a]; omega⟩
  have := InsO_a.start (P := Z) (X := r.take 20) (Q := r.drop 20) (y := Z ++ r) (by rw [e])
  rw [ha, hr, hl] at this
  exact this
theorem St1_a.last {l y : List Pk_a} {a : Nat} (h : St1_a l a y) (hb : ¬ a + 20 ≤ l.length) : ∃ L', InsO_a L' a l.length l.length 1 y ∧ Full_a l 20 L' := by
  have hl := h.len
  obtain ⟨k, Z, lZ, r, rfl, rfl, hf, ha⟩ := h
  have hz := hf.len
  refine ⟨Z ++ isort_a r, ?_, k, Z, lZ, r, rfl, rfl, hf, by simp only [List.length_append] at hb; omega⟩
  have := InsO_a.start (P := Z) (X := r) (Q := []) (y := Z ++ r) (by simp)
  rw [List.append_nil, ha, hl.1] at this
  rw [show a + r.length = (lZ ++ r).length by rw [List.length_append]; omega] at this
  exact this
theorem Full_a.fin {l y : List Pk_a} {bs : Nat} (h : Full_a l bs y) (hb : l.length ≤ bs) : y = isort_a l := by
  obtain ⟨k, Z, lZ, r, rfl, rfl, hf, hr⟩ := h
  cases k with
  | zero => obtain ⟨rfl, rfl⟩ := hf; rfl
  | succ k =>
    obtain ⟨X, Z', lZ', hX, rfl, rfl, h'⟩ := hf
    have h2 := h'.len
    simp only [List.length_append] at hb
    have : r = [] := List.length_eq_zero_iff.1 (by omega)
    have : Z' = [] := List.length_eq_zero_iff.1 (by omega)
    have : lZ' = [] := List.length_eq_zero_iff.1 (by omega)
    subst_vars
    simp [isort_a]
/-- A pass of merges. -/
def Pass_a (l : List Pk_a) (bs a : Nat) (y : List Pk_a) : Prop := ∃ k W lW y2 l2, y = W ++ y2 ∧ l = lW ++ l2 ∧ Fl_a (2 * bs) k W lW ∧ W.length = a ∧ Full_a l2 bs y2
theorem Full_a.len {l y : List Pk_a} {bs : Nat} (h : Full_a l bs y) : y.length = l.length := by
  obtain ⟨k, Z, lZ, r, rfl, rfl, hf, hr⟩ := h
  have := hf.len
  simp only [List.length_append, isort_length_a]; omega
theorem Pass_a.start {l y : List Pk_a} {bs : Nat} (h : Full_a l bs y) : Pass_a l bs 0 y := ⟨0, [], [], y, l, rfl, rfl, ⟨rfl, rfl⟩, rfl, h⟩
theorem Pass_a.len {l y : List Pk_a} {bs a : Nat} (h : Pass_a l bs a y) : y.length = l.length ∧ a ≤ l.length := by
  obtain ⟨k, W, lW, y2, l2, rfl, rfl, hf, ha, h2⟩ := h
  have := hf.len
  have := h2.len
  simp only [List.length_append]; omega
theorem Pass_a.step {l y : List Pk_a} {bs a : Nat} (h : Pass_a l bs a y) (h0 : 1 ≤ bs) (hb : a + 2 * bs ≤ l.length) : ∃ L', Mer_a L' a (a + bs) (a + 2 * bs) l.length y ∧ Pass_a l bs (a + 2 * bs) L' := by
  have hl := h.len.1
  obtain ⟨k, W, lW, y2, l2, rfl, rfl, hf, ha, k2, Z, lZ, r, rfl, rfl, hz, hr⟩ := h
  have hfl := hf.len
  have hzl := hz.len
  simp only [List.length_append] at hb
  cases k2 with
  | zero => obtain ⟨rfl, rfl⟩ := hz; simp at hb; omega
  | succ k2 =>
    obtain ⟨X, Z', lZ', hX, rfl, rfl, hz'⟩ := hz
    cases k2 with
    | zero => obtain ⟨rfl, rfl⟩ := hz'; simp at hb; omega
    | succ k2 =>
      obtain ⟨Y, Z2, lZ2, hY, rfl, rfl, hz2⟩ := hz'
      refine ⟨W ++ (into_a (isort_a X) (isort_a Y) ++ (Z2 ++ isort_a r)), ⟨W, isort_a X, isort_a Y, Z2 ++ isort_a r, by simp, ha, by rw [isort_length_a]; omega, by rw [isort_length_a]; omega, isort_asc_a _, isort_asc_a _, rfl, hl⟩, k + 1, W ++ isort_a (X ++ Y), lW ++ (X ++ Y), Z2 ++ isort_a r, lZ2 ++ r, by rw [into_isort_a]; simp, by simp, hf.snoc (by rw [List.length_append]; omega), by rw [List.length_append, isort_length_a, List.length_append]; omega, k2, Z2, lZ2, r, rfl, rfl, hz2, hr⟩
theorem Pass_a.last {l y : List Pk_a} {bs a : Nat} (h : Pass_a l bs a y) (h0 : 1 ≤ bs) (hb : ¬ a + 2 * bs ≤ l.length) : ∃ L', (a + bs < l.length → Mer_a L' a (a + bs) l.length l.length y) ∧ (¬ a + bs < l.length → L' = y) ∧ Full_a l (2 * bs) L' := by
  have hl := h.len
  obtain ⟨k, W, lW, y2, l2, rfl, rfl, hf, ha, k2, Z, lZ, r, rfl, rfl, hz, hr⟩ := h
  have hfl := hf.len
  have hzl := hz.len
  simp only [List.length_append] at hb
  cases k2 with
  | zero =>
    obtain ⟨rfl, rfl⟩ := hz
    refine ⟨W ++ isort_a r, fun h => ?_, fun _ => by simp, k, W, lW, r, rfl, by simp, hf, by omega⟩
    simp only [List.length_append, List.length_nil] at h; omega
  | succ k2 =>
    obtain ⟨X, Z', lZ', hX, rfl, rfl, hz'⟩ := hz
    cases k2 with
    | zero =>
      obtain ⟨rfl, rfl⟩ := hz'
      refine ⟨W ++ isort_a (X ++ r), fun h => ⟨W, isort_a X, isort_a r, [], by simp, ha, by rw [isort_length_a]; omega, ?_, isort_asc_a _, isort_asc_a _, by rw [into_isort_a]; simp, hl.1⟩, fun h => ?_, k, W, lW, X ++ r, rfl, by simp, hf, by rw [List.length_append]; omega⟩
      · rw [isort_length_a]; simp only [List.length_append, List.length_nil]; omega
      · have : r = [] := List.length_eq_zero_iff.1 (by simp only [List.length_append, List.length_nil] at h; omega)
        subst this; simp [isort_a]
    | succ k2 =>
      obtain ⟨Y, Z2, lZ2, hY, rfl, rfl, hz2⟩ := hz'
      simp only [List.length_append] at hb; omega

set_option maxRecDepth 100000 in
set_option maxHeartbeats 3200000 in
theorem stable13_a (B off n cap : Nat) (l : List Pk_a) (hl : l.length = n) (hn : n ≤ 1000) (w : World) (h : PkO_a w B off l) :
    Calls Tryz.prog 90 #[.slice (some ⟨B, off, none⟩) n cap, .int .i64 n, .func (.func 68) #[] #[]] w (Sorts_a B off (isort_a l) w) := by
  have HL := Lib.hid hl
  have H := Lib.hid (And.intro h (St1_a.start l))
  clear h hl
  go_enter Tryz.func90, Tryz.ntmps90
  go_wp2_with fail
  go_loopw [7, 8] (fun s7 s8 wx => ∃ (a : Nat) (y : List Pk_a), s7 = .int .i64 a ∧ s8 = .int .i64 ((a : Int) + 20) ∧ a ≤ n ∧ Hid (PkO_a wx B off y ∧ St1_a l a y) ∧ Hid (Apart B w wx)) (fun s7 _ _ => n - (intOf s7).toNat)
  case atStart => exact ⟨0, l, rfl, rfl, Nat.zero_le _, H, Apart.refl _ _⟩
  case round =>
    obtain ⟨a, y, rfl, rfl, han, HO, HA⟩ := hrel
    obtain ⟨wk, rfl⟩ : ∃ u : World, u = wr := ⟨_, rfl⟩
    by_cases hb : a + 20 ≤ n
    · have hbI : (a : Int) + 20 ≤ (n : Int) := by omega
      obtain ⟨L1, hI, hS⟩ := HO.out.2.step (by rw [HL.out]; exact hb)
      rw [HL.out] at hI
      have hc := insertion13_a B off n cap a (a + 20) y L1 hI wk HO.out.1 hn (by omega)
      rw [show ((a + 20 : Nat) : Int) = (a : Int) + 20 by omega] at hc
      have HS := Lib.hid hS
      clear hI hS
      go_wp2_with fail
      refine hc.mono ?_
      clear hc
      rintro e w1 ⟨rfl, ha1, ho1⟩
      have HS1 := Lib.hid (And.intro ha1 ho1)
      clear ha1 ho1
      go_wp2_with fail
      go_roundw
      case rel => exact ⟨a + 20, L1, by go_num, by go_num, hb, ⟨HS1.out.2, HS.out⟩, HA.out.trans HS1.out.1⟩
      case measure => first | (simp [intOf]; done) | (simp [intOf]; omega)
    · have hbI : ¬ (a : Int) + 20 ≤ (n : Int) := by omega
      obtain ⟨L1, hI, hS⟩ := HO.out.2.last (by rw [HL.out]; exact hb)
      rw [HL.out] at hI
      have hc := insertion13_a B off n cap a n y L1 hI wk HO.out.1 hn han
      have HS := Lib.hid hS
      clear hI hS
      go_wp2_with fail
      refine hc.mono ?_
      clear hc
      rintro e w1 ⟨rfl, ha1, ho1⟩
      have HS1 := Lib.hid (And.intro (HA.out.trans ha1) ho1)
      clear ha1 ho1 HO HA
      go_wp2_with fail
      go_loopw [6] (fun s6 wx => ∃ (bs : Nat) (y : List Pk_a), s6 = .int .i64 bs ∧ 20 ≤ bs ∧ bs ≤ 2000 ∧ Hid (PkO_a wx B off y ∧ Full_a l bs y) ∧ Hid (Apart B w wx)) (fun s6 _ => 2000 - (intOf s6).toNat)
      case atStart => exact ⟨20, L1, rfl, Nat.le_refl _, by omega, ⟨HS1.out.2, HS.out⟩, HS1.out.1⟩
      case round =>
        obtain ⟨bs, y, rfl, hbs, hbs2, HO, HA⟩ := hrel
        obtain ⟨wm, rfl⟩ : ∃ u : World, u = wr := ⟨_, rfl⟩
        by_cases hbn : bs < n
        · have hbnI : (bs : Int) < (n : Int) := by omega
          have HP := Lib.hid (Pass_a.start HO.out.2)
          have HW := Lib.hid HO.out.1
          clear HO
          go_wp2_with fail
          go_loopw [7, 8] (fun s7 s8 wx => ∃ (a : Nat) (y : List Pk_a), s7 = .int .i64 a ∧ s8 = .int .i64 ((a : Int) + 2 * (bs : Int)) ∧ a ≤ n ∧ Hid (PkO_a wx B off y ∧ Pass_a l bs a y) ∧ Hid (Apart B w wx)) (fun s7 _ _ => n - (intOf s7).toNat)
          case atStart => exact ⟨0, y, rfl, by go_num, Nat.zero_le _, ⟨HW.out, HP.out⟩, HA⟩
          case round =>
            obtain ⟨a, y, rfl, rfl, han, HO, HA⟩ := hrel
            obtain ⟨wp, rfl⟩ : ∃ u : World, u = wr := ⟨_, rfl⟩
            by_cases hb : a + 2 * bs ≤ n
            · have hbI : (a : Int) + 2 * (bs : Int) ≤ (n : Int) := by omega
              obtain ⟨L2, hI, hS⟩ := HO.out.2.step (by omega) (by rw [HL.out]; exact hb)
              rw [HL.out] at hI
              have hc := symMerge13_a B off n cap hn (2 * bs) a (a + bs) (a + 2 * bs) y L2 wp (by omega) hI (by omega) (by omega) HO.out.1
              rw [show ((a + bs : Nat) : Int) = (a : Int) + (bs : Int) by omega, show ((a + 2 * bs : Nat) : Int) = (a : Int) + 2 * (bs : Int) by omega] at hc
              have HS := Lib.hid hS
              clear hI hS
              go_wp2_with fail
              refine hc.mono ?_
              clear hc
              rintro e w2 ⟨rfl, ha1, ho1⟩
              have HS2 := Lib.hid (And.intro ha1 ho1)
              clear ha1 ho1
              go_wp2_with fail
              go_roundw
              case rel => exact ⟨a + 2 * bs, L2, by go_num, by go_num, hb, ⟨HS2.out.2, HS.out⟩, HA.out.trans HS2.out.1⟩
              case measure => first | (simp [intOf]; done) | (simp [intOf]; omega)
            · have hbI : ¬ (a : Int) + 2 * (bs : Int) ≤ (n : Int) := by omega
              obtain ⟨L2, hI, hI2, hS⟩ := HO.out.2.last (by omega) (by rw [HL.out]; exact hb)
              rw [HL.out] at hI hI2
              have HS := Lib.hid hS
              clear hS
              by_cases hm : a + bs < n
              · have hmI : (a : Int) + (bs : Int) < (n : Int) := by omega
                have hc := symMerge13_a B off n cap hn (2 * bs) a (a + bs) n y L2 wp (by omega) (hI hm) (by omega) (by omega) HO.out.1
                rw [show ((a + bs : Nat) : Int) = (a : Int) + (bs : Int) by omega] at hc
                clear hI hI2
                go_wp2_with fail
                refine hc.mono ?_
                clear hc
                rintro e w2 ⟨rfl, ha1, ho1⟩
                have HS2 := Lib.hid (And.intro (HA.out.trans ha1) ho1)
                clear ha1 ho1
                go_wp2_with fail
                go_roundw
                case rel => exact ⟨2 * bs, L2, by go_num, by omega, by omega, ⟨HS2.out.2, HS.out⟩, HS2.out.1⟩
                case measure => first | (simp [intOf]; done) | (simp [intOf]; omega)
              · have hmI : ¬ (a : Int) + (bs : Int) < (n : Int) := by omega
                have HE := Lib.hid (hI2 hm)
                clear hI hI2
                go_wp2_with fail
                go_roundw
                case rel => exact ⟨2 * bs, L2, by go_num, by omega, by omega, ⟨by rw [HE.out]; exact HO.out.1, HS.out⟩, HA⟩
                case measure => first | (simp [intOf]; done) | (simp [intOf]; omega)
        · have hbnI : ¬ (bs : Int) < (n : Int) := by omega
          have HF := Lib.hid (HO.out.2.fin (by rw [HL.out]; omega))
          go_wp2_with fail
          go_end0
          exact ⟨rfl, HA.out, by rw [← HF.out]; exact HO.out.1⟩

set_option maxHeartbeats 400000 in
theorem sortStable13_a (B off n cap : Nat) (l : List Pk_a) (hl : l.length = n) (hn : n ≤ 1000) (w : World) (h : PkO_a w B off l) :
    Calls Tryz.prog 67 #[.slice (some ⟨B, off, none⟩) n cap, .func (.func 68) #[] #[]] w (Sorts_a B off (isort_a l) w) := by
  have H := Lib.hid (And.intro hl h)
  clear hl h
  go_enter Tryz.func67, Tryz.ntmps67
  go_wp2_with fail
  refine (stable13_a B off n cap l H.out.1 hn w H.out.2).mono ?_
  rintro e w1 ⟨rfl, ha1, ho1⟩
  have HS1 := Lib.hid (And.intro ha1 ho1)
  clear ha1 ho1
  go_wp2_with fail
  go_end0
  exact ⟨rfl, HS1.out.1, HS1.out.2⟩

theorem insertion0_a (A : Option Addr) (cap : Nat) (c : Value) (w : World) : Calls Tryz.prog 101 #[.slice A 0 cap, .int .i64 0, .int .i64 0, c] w fun e w' => e = .returned (.tuple #[]) ∧ w' = w := by
  go_enter Tryz.func101, Tryz.ntmps101
  go_wp2_with fail
  refine wp_loop_rounds 1 ?_
  rw [rounds_succ]
  go_wp2_with fail
  go_end0
  exact ⟨rfl, rfl⟩
theorem stable0_a (A : Option Addr) (cap : Nat) (c : Value) (w : World) : Calls Tryz.prog 90 #[.slice A 0 cap, .int .i64 0, c] w fun e w' => e = .returned (.tuple #[]) ∧ w' = w := by
  go_enter Tryz.func90, Tryz.ntmps90
  go_wp2_with fail
  refine wp_loop_rounds 1 ?_
  rw [rounds_succ]
  go_wp2_with fail
  refine (insertion0_a A cap c _).mono ?_
  rintro e w1 ⟨rfl, rfl⟩
  go_wp2_with fail
  refine wp_loop_rounds 1 ?_
  rw [rounds_succ]
  go_wp2_with fail
  go_end0
  exact ⟨rfl, rfl⟩
theorem sortStable0_a (A : Option Addr) (cap : Nat) (c : Value) (w : World) : Calls Tryz.prog 67 #[.slice A 0 cap, c] w fun e w' => e = .returned (.tuple #[]) ∧ w' = w := by
  go_enter Tryz.func67, Tryz.ntmps67
  go_wp2_with fail
  refine (stable0_a A cap c _).mono ?_
  rintro e w1 ⟨rfl, rfl⟩
  go_wp2_with fail
  go_end0
  exact ⟨rfl, rfl⟩

end Go.Proofs.YtkienpbmoilheaaGreat
