/- The walk of ConvolutionProves. By the verifier's side. -/
import Derived.Test.YtladmpoopfabdaaConEG
import Derived.Test.YtladmpoopfabdaaCurveNormalW
import Derived.Test.YtladmpoopfabdaaRefA
import Derived.Test.YtladmpoopfabdaaKeepC
namespace Go.Proofs.Ytladmpoopfabdaa
open Go.RowKit
set_option linter.unusedSimpArgs false
set_option linter.unusedVariables false

theorem rplus7_any (a b : Int) (ha : Mid a) (hb : Mid b) (w : World) : Calls Try.prog 78 #[.int .i64 a, .int .i64 b] w fun e w' => e = .returned (.int .i64 (plI a b)) ∧ w' = w := by
  obtain ⟨a1, a2, a3⟩ := ha.bd
  obtain ⟨b1, b2, b3⟩ := hb.bd
  by_cases h1 : a = 4611686018427387904
  · subst h1
    have e : plI 4611686018427387904 b = 4611686018427387904 := plI_l b
    rw [e]
    clear ha hb
    go_enter Try.func78, Try.ntmps78
    go_wp2_with fail
    go_ret
    exact ⟨rfl, rfl⟩
  · by_cases h2 : b = 4611686018427387904
    · subst h2
      have e : plI a 4611686018427387904 = 4611686018427387904 := plI_r a
      rw [e]
      have t1 : (a == 4611686018427387904) = false := by simpa using h1
      clear ha hb h1
      go_enter Try.func78, Try.ntmps78
      go_wp2_with fail
      go_ret
      exact ⟨rfl, rfl⟩
    · have e : plI a b = a + b := plI_fin h1 h2
      rw [e]
      have t1 : (a == 4611686018427387904) = false := by simpa using h1
      have t2 : (b == 4611686018427387904) = false := by simpa using h2
      have a4 : a ≤ 1125899906842624 := by omega
      have b4 : b ≤ 1125899906842624 := by omega
      clear ha hb h1 h2 a3 b3 e
      go_enter Try.func78, Try.ntmps78
      go_wp2_with fail
      go_ret
      exact ⟨rfl, rfl⟩

/-- Both curves in boxes. -/
structure LS7 (w : World) (a1 : Option Addr) (n1 cap1 : Nat) (z1 : List Int) (p1 : Nat) (i1 : Int) (a2 : Option Addr) (n2 cap2 : Nat) (z2 : List Int) (p2 : Nat) (i2 : Int) (u : World) : Prop where
  x : Bx u w.heap.size a1 n1 cap1 p1 i1 z1
  y : Bx u (w.heap.size + 1) a2 n2 cap2 p2 i2 z2
  below : Below w.heap.size w u
theorem LS7.call {w u v : World} {a1 : Option Addr} {n1 cap1 : Nat} {z1 : List Int} {p1 : Nat} {i1 : Int} {a2 : Option Addr} {n2 cap2 : Nat} {z2 : List Int} {p2 : Nat} {i2 : Int} (h : LS7 w a1 n1 cap1 z1 p1 i1 a2 n2 cap2 z2 p2 i2 u) (hb : Below u.heap.size u v) : LS7 w a1 n1 cap1 z1 p1 i1 a2 n2 cap2 z2 p2 i2 v := ⟨h.x.under hb, h.y.under hb, h.below.trans (hb.mono h.below.size)⟩

set_option maxRecDepth 100000 in
set_option maxHeartbeats 6400000 in
theorem rleast7 (a1 : Option Addr) (n1 cap1 : Nat) (z1 : List Int) (p1 : Nat) (i1 : Int) (g1 : Good z1 p1 i1) (a2 : Option Addr) (n2 cap2 : Nat) (z2 : List Int) (p2 : Nat) (i2 : Int) (g2 : Good z2 p2 i2) (ti : Int) (t : Nat) (hti : ti = t) (ht : t ≤ 100000) (v : Int) (hv : encF (eConv z1 p1 i1 z2 p2 i2) t = v)
    (w : World) (h1 : RowZ w a1 n1 cap1 z1) (h2 : RowZ w a2 n2 cap2 z2) :
    Calls Try.prog 33 #[curV a1 n1 cap1 p1 i1, curV a2 n2 cap2 p2 i2, .int .i64 ti] w (Says (.int .i64 v) w) := by
  subst hti
  obtain ⟨W, hW⟩ : ∃ W, (w.alloc (.cells #[.slice a1 n1 cap1, .int .i64 p1, .int .i64 i1] 24)).alloc (.cells #[.slice a2 n2 cap2, .int .i64 p2, .int .i64 i2] 24) = W := ⟨_, rfl⟩
  have LS := Lib.hid (show LS7 w a1 n1 cap1 z1 p1 i1 a2 n2 cap2 z2 p2 i2 W by
    have hB : Below w.heap.size w W := by rw [← hW]; exact ((Below.refl _ _).alloc (Nat.le_refl _) _).alloc (by simp) _
    exact ⟨⟨by rw [← hW]; exact (Cur3.new w _ _ _ _).alloc _, h1.under hB⟩, ⟨by rw [← hW]; exact Cur3.new2 w _ _ _ _ _, h2.under hB⟩, hB⟩)
  have HG := Lib.hid (And.intro g1 g2)
  have HVV := Lib.hid (show enc (convTo (eC z1 p1 i1) (eC z2 p2 i2) t (t + 1)) = v from hv)
  have HW := Lib.hid hW
  clear g1 g2 h1 h2 hv hW
  go_enter Try.func33, Try.ntmps33
  go_upto_region 2 with fail
  try rw [HW.out]
  go_wp2_with fail
  clear HW
  go_loopw [7, 8] (fun s7 s8 wx => ∃ s : Nat, s7 = .int .i64 (enc (convTo (eC z1 p1 i1) (eC z2 p2 i2) t s)) ∧ s8 = .int .i64 s ∧ s ≤ t + 1 ∧ Hid (LS7 w a1 n1 cap1 z1 p1 i1 a2 n2 cap2 z2 p2 i2 wx)) (fun _ s8 _ => t + 1 - (intOf s8).toNat)
  case atStart => exact ⟨0, rfl, by go_num, Nat.zero_le _, LS⟩
  case round =>
    obtain ⟨s, rfl, rfl, hs, CK⟩ := hrel
    obtain ⟨wt, rfl⟩ : ∃ u : World, u = wr := ⟨_, rfl⟩
    by_cases hlt : s ≤ t
    · have hlti : (s : Int) ≤ (t : Int) := by omega
      obtain ⟨m, hm⟩ : ∃ m, enc (convTo (eC z1 p1 i1) (eC z2 p2 i2) t s) = m := ⟨_, rfl⟩
      obtain ⟨x, hx⟩ : ∃ x, atC z1 p1 i1 s = x := ⟨_, rfl⟩
      obtain ⟨y, hy⟩ : ∃ y, atC z2 p2 i2 (t - s) = y := ⟨_, rfl⟩
      obtain ⟨q, hq⟩ : ∃ q, plI x y = q := ⟨_, rfl⟩
      have HPL := Lib.hid hq
      have HV := Lib.hid (And.intro hx hy)
      have HMX := Lib.hid (show Mid x ∧ Mid y from ⟨hx ▸ at_mid2 HG.out.1 (by omega), hy ▸ at_mid2 HG.out.2 (by omega)⟩)
      have HE := Lib.hid (show enc (convTo (eC z1 p1 i1) (eC z2 p2 i2) t (s + 1)) = min m q by rw [← hm, ← hq, ← hx, ← hy]; exact conv_step HG.out.1 HG.out.2 (by omega) hlt)
      have hmin : (m ≤ q ∧ min m q = m) ∨ (q < m ∧ min m q = q) := by omega
      have hsub : (t : Int) - (s : Int) = ((t - s : Nat) : Int) := by omega
      have hsubw : IntKind.i64.wrap ((t - s : Nat) : Int) = ((t - s : Nat) : Int) := IntWalk.i64_in _ ⟨by omega, by omega⟩
      have CK0 := Lib.hid (CK.out.call (Below.refl _ _).drew)
      have KS := Lib.hid (show ∀ u, LS7 w a1 n1 cap1 z1 p1 i1 a2 n2 cap2 z2 p2 i2 u → (fun u => u.cell? ⟨w.heap.size, 0, none⟩ = some (.slice a1 n1 cap1) ∧ u.cell? ⟨w.heap.size, 1, none⟩ = some (.int .i64 p1) ∧ u.cell? ⟨w.heap.size, 2, none⟩ = some (.int .i64 i1) ∧ u.cell? ⟨w.heap.size + 1, 0, none⟩ = some (.slice a2 n2 cap2) ∧ u.cell? ⟨w.heap.size + 1, 1, none⟩ = some (.int .i64 p2) ∧ u.cell? ⟨w.heap.size + 1, 2, none⟩ = some (.int .i64 i2) ∧ Hid (LS7 w a1 n1 cap1 z1 p1 i1 a2 n2 cap2 z2 p2 i2 u)) u from fun u hu => ⟨hu.x.box.c0, hu.x.box.c1, hu.x.box.c2, hu.y.box.c0, hu.y.box.c1, hu.y.box.c2, hu⟩)
      rw [hm]
      clear hx hy hq hm
      go_upto_region 5 with fail
      rcases hmin with ⟨hle, hme⟩ | ⟨hgt, hme⟩
      · have t1 : ¬ q < m := by omega
        have t2 : decide (q < m) = false := decide_eq_false t1
        refine wp_region_keeps (fun u => u.cell? ⟨w.heap.size, 0, none⟩ = some (.slice a1 n1 cap1) ∧ u.cell? ⟨w.heap.size, 1, none⟩ = some (.int .i64 p1) ∧ u.cell? ⟨w.heap.size, 2, none⟩ = some (.int .i64 i1) ∧ u.cell? ⟨w.heap.size + 1, 0, none⟩ = some (.slice a2 n2 cap2) ∧ u.cell? ⟨w.heap.size + 1, 1, none⟩ = some (.int .i64 p2) ∧ u.cell? ⟨w.heap.size + 1, 2, none⟩ = some (.int .i64 i2) ∧ Hid (LS7 w a1 n1 cap1 z1 p1 i1 a2 n2 cap2 z2 p2 i2 u)) 11 1 (by kernel_rfl) (by kernel_rfl) (KS.out _ CK0.out) (fun hHeld0 => ?_)
        refine wpAnyK_take (i := 0) (v := ?_) rfl (by kernel_rfl) (fun _ _ _ h => h) (Or.inl ⟨by rfl, ?_⟩) (by assumption) ?_
        rotate_left
        · (intro w hSw; (try dsimp only at hSw); go_simp; try with_reducible rfl)
        try simp only [Act.put, List.getElem_toArray, List.getElem_cons_zero, List.getElem_cons_succ, List.setIfInBounds_toArray, List.set_cons_zero, List.set_cons_succ]
        refine wpAnyK_take (i := 1) (v := ?_) rfl (by kernel_rfl) (fun _ _ _ h => h) (Or.inl ⟨by rfl, ?_⟩) (by assumption) ?_
        rotate_left
        · (intro w hSw; (try dsimp only at hSw); go_simp; try with_reducible rfl)
        try simp only [Act.put, List.getElem_toArray, List.getElem_cons_zero, List.getElem_cons_succ, List.setIfInBounds_toArray, List.set_cons_zero, List.set_cons_succ]
        refine wpAnyK_take (i := 2) (v := ?_) rfl (by kernel_rfl) (fun _ _ _ h => h) (Or.inl ⟨by rfl, ?_⟩) (by assumption) ?_
        rotate_left
        · (intro w hSw; (try dsimp only at hSw); go_simp; try with_reducible rfl)
        try simp only [Act.put, List.getElem_toArray, List.getElem_cons_zero, List.getElem_cons_succ, List.setIfInBounds_toArray, List.set_cons_zero, List.set_cons_succ]
        refine wpAnyK_take (i := 4) (v := ?_) rfl (by kernel_rfl) (fun _ _ _ h => h) (Or.inl ⟨by rfl, ?_⟩) (by assumption) ?_
        rotate_left
        · (intro w hSw; (try dsimp only at hSw); go_simp; try with_reducible rfl)
        try simp only [Act.put, List.getElem_toArray, List.getElem_cons_zero, List.getElem_cons_succ, List.setIfInBounds_toArray, List.set_cons_zero, List.set_cons_succ]
        refine wpAnyK_take (i := 5) (v := ?_) rfl (by kernel_rfl) (fun _ _ _ h => h) (Or.inl ⟨by rfl, ?_⟩) (by assumption) ?_
        rotate_left
        · (intro w hSw; (try dsimp only at hSw); go_simp; try with_reducible rfl)
        try simp only [Act.put, List.getElem_toArray, List.getElem_cons_zero, List.getElem_cons_succ, List.setIfInBounds_toArray, List.set_cons_zero, List.set_cons_succ]
        refine wpAnyK_take (i := 6) (v := ?_) rfl (by kernel_rfl) (fun _ _ _ h => h) (Or.inl ⟨by rfl, ?_⟩) (by assumption) ?_
        rotate_left
        · (intro w hSw; (try dsimp only at hSw); go_simp; try with_reducible rfl)
        try simp only [Act.put, List.getElem_toArray, List.getElem_cons_zero, List.getElem_cons_succ, List.setIfInBounds_toArray, List.set_cons_zero, List.set_cons_succ]
        refine wpAnyK_take (i := 7) (v := ?_) rfl (by kernel_rfl) (fun _ _ _ h => h) (Or.inl ⟨by rfl, ?_⟩) (by assumption) ?_
        rotate_left
        · (intro w hSw; (try dsimp only at hSw); go_simp; try with_reducible rfl)
        try simp only [Act.put, List.getElem_toArray, List.getElem_cons_zero, List.getElem_cons_succ, List.setIfInBounds_toArray, List.set_cons_zero, List.set_cons_succ]
        refine wpAnyK_step (i := 3) rfl (by kernel_rfl) (fun K hK => ?_)
        go_simp
        with_reducible refine (rat_at a1 n1 cap1 z1 p1 i1 HG.out.1 s s rfl (by omega) x HV.out.1 _ CK0.out.x.row).mono ?_
        rintro e u3 ⟨rfl, hb⟩
        have CK1 := Lib.hid (CK0.out.call hb)
        clear hb
        refine hK.out _ _ (KS.out _ CK1.out) (fun hHeld1 => ?_)
        clear hK K hHeld0
        try simp only [Act.put, List.getElem_toArray, List.getElem_cons_zero, List.getElem_cons_succ, List.setIfInBounds_toArray, List.set_cons_zero, List.set_cons_succ]
        refine wpAnyK_step (i := 8) rfl (by kernel_rfl) (fun K hK => ?_)
        go_simp
        with_reducible refine (rat_at a2 n2 cap2 z2 p2 i2 HG.out.2 (t - s : Nat) (t - s) rfl (by omega) y HV.out.2 _ CK1.out.y.row).mono ?_
        rintro e u4 ⟨rfl, hb⟩
        have CK2 := Lib.hid (CK1.out.call hb)
        clear hb
        refine hK.out _ _ (KS.out _ CK2.out) (fun hHeld2 => ?_)
        clear hK K hHeld1
        try simp only [Act.put, List.getElem_toArray, List.getElem_cons_zero, List.getElem_cons_succ, List.setIfInBounds_toArray, List.set_cons_zero, List.set_cons_succ]
        refine wpAnyK_step (i := 9) rfl (by kernel_rfl) (fun K hK => ?_)
        go_simp
        with_reducible refine (rplus7_any x y HMX.out.1 HMX.out.2 _).mono ?_
        rintro e u5 ⟨rfl, hu5⟩
        subst hu5
        have CK3 := CK2
        rw [HPL.out]
        refine hK.out _ _ (KS.out _ CK3.out) (fun hHeld3 => ?_)
        clear hK K hHeld2
        try simp only [Act.put, List.getElem_toArray, List.getElem_cons_zero, List.getElem_cons_succ, List.setIfInBounds_toArray, List.set_cons_zero, List.set_cons_succ]
        refine wpAnyK_take (i := 10) (v := ?_) rfl (by kernel_rfl) (fun _ _ _ h => h) (Or.inl ⟨by rfl, ?_⟩) (by assumption) ?_
        rotate_left
        · (intro w hSw; (try dsimp only at hSw); go_simp; try with_reducible rfl)
        try simp only [Act.put, List.getElem_toArray, List.getElem_cons_zero, List.getElem_cons_succ, List.setIfInBounds_toArray, List.set_cons_zero, List.set_cons_succ]
        refine wpAnyK_done (by kernel_rfl) ?_
        simp only [List.drop_succ_cons, List.drop_zero]
        clear hHeld3
        go_wp2_with fail
        go_roundw
        case rel => exact ⟨s + 1, by rw [HE.out, hme], by go_num, by omega, CK3⟩
        case measure => simp [intOf]; omega
      · have t2 : decide (q < m) = true := decide_eq_true hgt
        refine wp_region_keeps (fun u => u.cell? ⟨w.heap.size, 0, none⟩ = some (.slice a1 n1 cap1) ∧ u.cell? ⟨w.heap.size, 1, none⟩ = some (.int .i64 p1) ∧ u.cell? ⟨w.heap.size, 2, none⟩ = some (.int .i64 i1) ∧ u.cell? ⟨w.heap.size + 1, 0, none⟩ = some (.slice a2 n2 cap2) ∧ u.cell? ⟨w.heap.size + 1, 1, none⟩ = some (.int .i64 p2) ∧ u.cell? ⟨w.heap.size + 1, 2, none⟩ = some (.int .i64 i2) ∧ Hid (LS7 w a1 n1 cap1 z1 p1 i1 a2 n2 cap2 z2 p2 i2 u)) 11 1 (by kernel_rfl) (by kernel_rfl) (KS.out _ CK0.out) (fun hHeld0 => ?_)
        refine wpAnyK_take (i := 0) (v := ?_) rfl (by kernel_rfl) (fun _ _ _ h => h) (Or.inl ⟨by rfl, ?_⟩) (by assumption) ?_
        rotate_left
        · (intro w hSw; (try dsimp only at hSw); go_simp; try with_reducible rfl)
        try simp only [Act.put, List.getElem_toArray, List.getElem_cons_zero, List.getElem_cons_succ, List.setIfInBounds_toArray, List.set_cons_zero, List.set_cons_succ]
        refine wpAnyK_take (i := 1) (v := ?_) rfl (by kernel_rfl) (fun _ _ _ h => h) (Or.inl ⟨by rfl, ?_⟩) (by assumption) ?_
        rotate_left
        · (intro w hSw; (try dsimp only at hSw); go_simp; try with_reducible rfl)
        try simp only [Act.put, List.getElem_toArray, List.getElem_cons_zero, List.getElem_cons_succ, List.setIfInBounds_toArray, List.set_cons_zero, List.set_cons_succ]
        refine wpAnyK_take (i := 2) (v := ?_) rfl (by kernel_rfl) (fun _ _ _ h => h) (Or.inl ⟨by rfl, ?_⟩) (by assumption) ?_
        rotate_left
        · (intro w hSw; (try dsimp only at hSw); go_simp; try with_reducible rfl)
        try simp only [Act.put, List.getElem_toArray, List.getElem_cons_zero, List.getElem_cons_succ, List.setIfInBounds_toArray, List.set_cons_zero, List.set_cons_succ]
        refine wpAnyK_take (i := 4) (v := ?_) rfl (by kernel_rfl) (fun _ _ _ h => h) (Or.inl ⟨by rfl, ?_⟩) (by assumption) ?_
        rotate_left
        · (intro w hSw; (try dsimp only at hSw); go_simp; try with_reducible rfl)
        try simp only [Act.put, List.getElem_toArray, List.getElem_cons_zero, List.getElem_cons_succ, List.setIfInBounds_toArray, List.set_cons_zero, List.set_cons_succ]
        refine wpAnyK_take (i := 5) (v := ?_) rfl (by kernel_rfl) (fun _ _ _ h => h) (Or.inl ⟨by rfl, ?_⟩) (by assumption) ?_
        rotate_left
        · (intro w hSw; (try dsimp only at hSw); go_simp; try with_reducible rfl)
        try simp only [Act.put, List.getElem_toArray, List.getElem_cons_zero, List.getElem_cons_succ, List.setIfInBounds_toArray, List.set_cons_zero, List.set_cons_succ]
        refine wpAnyK_take (i := 6) (v := ?_) rfl (by kernel_rfl) (fun _ _ _ h => h) (Or.inl ⟨by rfl, ?_⟩) (by assumption) ?_
        rotate_left
        · (intro w hSw; (try dsimp only at hSw); go_simp; try with_reducible rfl)
        try simp only [Act.put, List.getElem_toArray, List.getElem_cons_zero, List.getElem_cons_succ, List.setIfInBounds_toArray, List.set_cons_zero, List.set_cons_succ]
        refine wpAnyK_take (i := 7) (v := ?_) rfl (by kernel_rfl) (fun _ _ _ h => h) (Or.inl ⟨by rfl, ?_⟩) (by assumption) ?_
        rotate_left
        · (intro w hSw; (try dsimp only at hSw); go_simp; try with_reducible rfl)
        try simp only [Act.put, List.getElem_toArray, List.getElem_cons_zero, List.getElem_cons_succ, List.setIfInBounds_toArray, List.set_cons_zero, List.set_cons_succ]
        refine wpAnyK_step (i := 3) rfl (by kernel_rfl) (fun K hK => ?_)
        go_simp
        with_reducible refine (rat_at a1 n1 cap1 z1 p1 i1 HG.out.1 s s rfl (by omega) x HV.out.1 _ CK0.out.x.row).mono ?_
        rintro e u3 ⟨rfl, hb⟩
        have CK1 := Lib.hid (CK0.out.call hb)
        clear hb
        refine hK.out _ _ (KS.out _ CK1.out) (fun hHeld1 => ?_)
        clear hK K hHeld0
        try simp only [Act.put, List.getElem_toArray, List.getElem_cons_zero, List.getElem_cons_succ, List.setIfInBounds_toArray, List.set_cons_zero, List.set_cons_succ]
        refine wpAnyK_step (i := 8) rfl (by kernel_rfl) (fun K hK => ?_)
        go_simp
        with_reducible refine (rat_at a2 n2 cap2 z2 p2 i2 HG.out.2 (t - s : Nat) (t - s) rfl (by omega) y HV.out.2 _ CK1.out.y.row).mono ?_
        rintro e u4 ⟨rfl, hb⟩
        have CK2 := Lib.hid (CK1.out.call hb)
        clear hb
        refine hK.out _ _ (KS.out _ CK2.out) (fun hHeld2 => ?_)
        clear hK K hHeld1
        try simp only [Act.put, List.getElem_toArray, List.getElem_cons_zero, List.getElem_cons_succ, List.setIfInBounds_toArray, List.set_cons_zero, List.set_cons_succ]
        refine wpAnyK_step (i := 9) rfl (by kernel_rfl) (fun K hK => ?_)
        go_simp
        with_reducible refine (rplus7_any x y HMX.out.1 HMX.out.2 _).mono ?_
        rintro e u5 ⟨rfl, hu5⟩
        subst hu5
        have CK3 := CK2
        rw [HPL.out]
        refine hK.out _ _ (KS.out _ CK3.out) (fun hHeld3 => ?_)
        clear hK K hHeld2
        try simp only [Act.put, List.getElem_toArray, List.getElem_cons_zero, List.getElem_cons_succ, List.setIfInBounds_toArray, List.set_cons_zero, List.set_cons_succ]
        refine wpAnyK_take (i := 10) (v := ?_) rfl (by kernel_rfl) (fun _ _ _ h => h) (Or.inl ⟨by rfl, ?_⟩) (by assumption) ?_
        rotate_left
        · (intro w hSw; (try dsimp only at hSw); go_simp; try with_reducible rfl)
        try simp only [Act.put, List.getElem_toArray, List.getElem_cons_zero, List.getElem_cons_succ, List.setIfInBounds_toArray, List.set_cons_zero, List.set_cons_succ]
        refine wpAnyK_done (by kernel_rfl) ?_
        simp only [List.drop_succ_cons, List.drop_zero]
        clear hHeld3
        go_wp2_with fail
        go_roundw
        case rel => exact ⟨s + 1, by rw [HE.out, hme], by go_num, by omega, CK3⟩
        case measure => simp [intOf]; omega
    · obtain rfl : s = t + 1 := by omega
      have hlti : ¬ (((t + 1 : Nat) : Int) ≤ (t : Int)) := by omega
      have HB := Lib.hid CK.out.below
      rw [HVV.out]
      go_wp2_with fail
      go_ret
      exact ⟨rfl, HB.out⟩

set_option maxRecDepth 100000 in
set_option maxHeartbeats 6400000 in
theorem convolutionProves_walk (W : World) (a : Option Addr) (n cap : Nat) (hrow : RowAt W a n cap) (at0 : Int) (hat : In64 at0) :
    Calls Try.prog 4 #[.slice a n cap, .int .i64 at0] W fun e w' => e = .returned (.bool true) ∧ Below W.heap.size W w' := by
  have HR := Lib.hid hrow
  have HAT := Lib.hid hat
  clear hrow hat
  go_enter Try.func4, Try.ntmps4
  go_wp2_with fail
  refine (new_any a n cap _ HR.out).mono ?_
  rintro e u1 ⟨rfl, hb1, hz1, ra, rn, rc, hs1⟩
  have HB1 := Lib.hid hb1
  have HS1 := Lib.hid hs1
  have Z1 := Lib.hid hz1
  clear hb1 hz1 hs1
  go_wp2_with fail
  refine (curve_any 8 (by omega) (by omega) _ ra rn rc _ HS1.out).mono ?_
  rintro e u2 ⟨af, nf, capf, zf, pf, jf, rfl, hs2, he2, hr2, ok2, hx2⟩
  have OF := Lib.hid ok2
  have HS2 := Lib.hid hs2
  have R2 := Lib.hid hr2
  have X2 := Lib.hid (show ∀ x, af = some x → ¬ x.block = W.heap.size from fun x hx => by have := hx2 x hx; have := Z1.out; omega)
  have HB2 := Lib.hid (HB1.out.trans (he2.below (Nat.le_refl _) HB1.out.size))
  clear hs2 he2 hr2 ok2 hx2
  go_wp2_with fail
  refine (curve_any 8 (by omega) (by omega) _ ra rn rc _ HS2.out).mono ?_
  rintro e u3 ⟨ag, ng, capg, zg, pg, jg, rfl, hs3, he3, hr3, ok3, hx3⟩
  have OG := Lib.hid ok3
  have HS3 := Lib.hid hs3
  have R3 := Lib.hid hr3
  have R23 := Lib.hid (R2.out.apart he3 X2.out)
  have X3 := Lib.hid (show ∀ x, ag = some x → ¬ x.block = W.heap.size from fun x hx => by have := hx3 x hx; have := Z1.out; have := he3.size; have := HB2.out.size; have h9 : W.heap.size < u2.heap.size := lt_of_cell (src_cell HS2.out); omega)
  have HB3 := Lib.hid (HB2.out.trans (he3.below (Nat.le_refl _) HB2.out.size))
  clear hs3 he3 hr3 ok3 hx3
  obtain ⟨w0, hw⟩ : ∃ W, (u3.alloc (.cells #[.slice af nf capf, .int .i64 pf, .int .i64 jf] 24)).alloc (.cells #[.slice ag ng capg, .int .i64 pg, .int .i64 jg] 24) = W := ⟨_, rfl⟩
  have hz : Below u3.heap.size u3 w0 := by rw [← hw]; exact (below_box _).alloc (by simp) _
  have Xf := Lib.hid (show Bx w0 u3.heap.size af nf capf pf jf zf by rw [← hw]; exact (Bx.new R23.out).under (below_box _))
  have Xg := Lib.hid (show Bx w0 (u3.heap.size + 1) ag ng capg pg jg zg by
    rw [← hw]
    have := Bx.new (p := pg) (inc := jg) (R3.out.alloc (.cells #[.slice af nf capf, .int .i64 pf, .int .i64 jf] 24))
    rwa [show (u3.alloc (.cells #[.slice af nf capf, .int .i64 pf, .int .i64 jf] 24)).heap.size = u3.heap.size + 1 by simp] at this)
  have HB4 := Lib.hid (HB3.out.trans (hz.mono HB3.out.size))
  have SR0 := Lib.hid (src_under HS3.out hz)
  have SW := Lib.hid (show W.heap.size < u3.heap.size ∧ u3.heap.size ≤ w0.heap.size from ⟨lt_of_cell (src_cell HS3.out), hz.size⟩)
  have hw0 := hw
  clear hw hz
  obtain ⟨L, hL120, hLN⟩ := lcm_day OF.out.good OG.out.good (drawn_nice OF.out (by omega)).day (drawn_nice OG.out (by omega)).day
  have HLN := Lib.hid hLN
  clear hLN
  have HM := Lib.hid (show ∃ t : Nat, at0 % 400 = t ∧ t < 400 from ⟨(at0 % 400).toNat, by omega, by omega⟩)
  by_cases hE : ECan (eConv zf pf jf zg pg jg)
  · have HE := Lib.hid hE
    clear hE
    obtain ⟨c0, c1, c2, c3, c4, c5⟩ := Xf.out.box
    obtain ⟨d0, d1, d2, d3, d4, d5⟩ := Xg.out.box
    go_wp2_with fail
    try rw [hw0]
    clear hw0
    clear c0 c1 c2 c3 c4 c5 d0 d1 d2 d3 d4 d5
    refine (prove_ok af nf capf zf pf jf OF.out.good ag ng capg zg pg jg OG.out.good L HLN.out hL120 _ Xf.out.row Xg.out.row).mono ?_
    rintro e v2 (⟨a, n, cap, hs, r, knc, F, ab, N, A, y1, q1, j1, y2, q2, j2, rfl, hb, hr, hra, hf, hn1, hn2, hLL, hF, hN, hA, hx⟩ | ⟨_, _, hno⟩)
    rotate_left
    · exact absurd HE.out hno
    obtain ⟨w2, hw⟩ : ∃ W, v2.alloc (.cells #[.slice a n cap, .int .i64 r, .int .i64 knc, .int .i64 F, .slice (some ⟨ab, 0, none⟩) N N] 40) = W := ⟨_, rfl⟩
    have hz2 : Below v2.heap.size v2 w2 := by rw [← hw]; exact below_box _
    have hz : Below w0.heap.size w0 w2 := hb.trans (hz2.mono hb.size)
    have Xf_2 := Lib.hid (Xf.out.under hz)
    have Xg_2 := Lib.hid (Xg.out.under hz)
    have HB_2 := Lib.hid (HB4.out.trans (hz.mono HB4.out.size))
    have XC_2 := Lib.hid (show Cert5 w2 v2.heap.size (.slice a n cap) (.int .i64 r) (.int .i64 knc) (.int .i64 F) (.slice (some ⟨ab, 0, none⟩) N N) by rw [← hw]; exact cert5_new v2 _ _ _ _ _ _)
    have RC_2 := Lib.hid (And.intro (hr.under hz2) (hra.under hz2))
    have HCR := Lib.hid (And.intro hf (And.intro (And.intro hn1 hn2) (And.intro hLL (And.intro hF (And.intro hN hA)))))
    have HW2 := Lib.hid hw
    clear hb hr hra hf hn1 hn2 hLL hF hN hA hx hz hz2 hw
    obtain ⟨c0, c1, c2, c3, c4, c5⟩ := Xf_2.out.box
    obtain ⟨d0, d1, d2, d3, d4, d5⟩ := Xg_2.out.box
    go_upto_region 4 with fail
    try rw [HW2.out]
    go_wp2_with fail
    clear c0 c1 c2 c3 c4 c5 d0 d1 d2 d3 d4 d5
    with_reducible refine ((cof_ok af nf capf zf pf jf OF.out.good ag ng capg zg pg jg OG.out.good L HLN.out hL120 _ Xf_2.out.row Xg_2.out.row).mono fun _ _ h => h.ok HE.out).mono ?_
    rintro e v3 ⟨a3, n3, cap3, z3, p3, i3, rfl, hb, hr, hf, hx⟩
    obtain ⟨w3, hw⟩ : ∃ W, v3.alloc (.cells #[.slice a3 n3 cap3, .int .i64 p3, .int .i64 i3] 24) = W := ⟨_, rfl⟩
    have hz : Below w2.heap.size w2 w3 := by rw [← hw]; exact hb.trans ((below_box _).mono hb.size)
    have Xf_3 := Lib.hid (Xf_2.out.under hz)
    have Xg_3 := Lib.hid (Xg_2.out.under hz)
    have HB_3 := Lib.hid (HB_2.out.trans (hz.mono HB_2.out.size))
    have XC_3 := Lib.hid (XC_2.out.below hz)
    have RC_3 := Lib.hid (And.intro (RC_2.out.1.under hz) (RC_2.out.2.under hz))
    have Xh_3 := Lib.hid (show Bx w3 v3.heap.size a3 n3 cap3 p3 i3 z3 by rw [← hw]; exact Bx.new hr)
    have HFh := Lib.hid hf
    have HW3 := Lib.hid hw
    clear hb hr hf hx hz hw
    go_upto_region 5 with fail
    try rw [HW3.out]
    go_wp2_with fail
    refine (mod_any at0 400 HAT.out (by omega) (by omega) _).mono ?_
    rintro e w4 ⟨rfl, rfl⟩
    obtain ⟨t, hte, htl⟩ := HM.out
    rw [hte]
    obtain ⟨v, hv⟩ : ∃ v, encF (eConv zf pf jf zg pg jg) t = v := ⟨_, rfl⟩
    have HV := Lib.hid hv
    have HV2 := Lib.hid (show atC z3 p3 i3 t = v by rw [← hv]; exact eform_at HFh.out t)
    clear hte hv
    obtain ⟨c0, c1, c2, c3, c4, c5⟩ := Xh_3.out.box
    go_wp2_with fail
    clear c0 c1 c2 c3 c4 c5
    with_reducible refine (value_at a3 n3 cap3 z3 p3 i3 HFh.out.good _ t rfl (by omega) v HV2.out _ Xh_3.out.row).mono ?_
    rintro e w5 ⟨rfl, hb⟩
    have Xf_5 := Lib.hid (Xf_3.out.under hb)
    have Xg_5 := Lib.hid (Xg_3.out.under hb)
    have HB_5 := Lib.hid (HB_3.out.trans (hb.mono HB_3.out.size))
    have XC_5 := Lib.hid (XC_3.out.below hb)
    have RC_5 := Lib.hid (And.intro (RC_3.out.1.under hb) (RC_3.out.2.under hb))
    have Xh_5 := Lib.hid (Xh_3.out.under hb)
    clear hb
    obtain ⟨c0, c1, c2, c3, c4, c5⟩ := Xf_5.out.box
    obtain ⟨d0, d1, d2, d3, d4, d5⟩ := Xg_5.out.box
    obtain ⟨⟨k0, k1, k2, k3, k4, k5⟩, k6, k7, k8, k9⟩ := XC_5.out
    go_wp2_with fail
    clear c0 c1 c2 c3 c4 c5 d0 d1 d2 d3 d4 d5 k0 k1 k2 k3 k4 k5 k6 k7 k8 k9
    refine (check_ok af nf capf zf pf jf OF.out.good ag ng capg zg pg jg OG.out.good L hL120 HCR.out.2.1.1 HCR.out.2.1.2 HCR.out.2.2.1 a n cap hs r knc F ab N A HCR.out.1 HCR.out.2.2.2.1 HCR.out.2.2.2.2.1 HCR.out.2.2.2.2.2 _ Xf_5.out.row Xg_5.out.row RC_5.out.1 RC_5.out.2).mono ?_
    rintro e w6 ⟨rfl, hb⟩
    have Xf_6 := Lib.hid (Xf_5.out.under hb)
    have Xg_6 := Lib.hid (Xg_5.out.under hb)
    have HB_6 := Lib.hid (HB_5.out.trans (hb.mono HB_5.out.size))
    have XC_6 := Lib.hid (XC_5.out.below hb)
    have RC_6 := Lib.hid (And.intro (RC_5.out.1.under hb) (RC_5.out.2.under hb))
    have Xh_6 := Lib.hid (Xh_5.out.under hb)
    clear hb
    obtain ⟨c0, c1, c2, c3, c4, c5⟩ := Xh_6.out.box
    obtain ⟨⟨k0, k1, k2, k3, k4, k5⟩, k6, k7, k8, k9⟩ := XC_6.out
    go_wp2_with fail
    clear c0 c1 c2 c3 c4 c5 k0 k1 k2 k3 k4 k5 k6 k7 k8 k9
    refine (same_at HCR.out.1 HFh.out _ RC_6.out.1 Xh_6.out.row).mono ?_
    rintro e w7 ⟨rfl, hb⟩
    have Xf_7 := Lib.hid (Xf_6.out.under hb)
    have Xg_7 := Lib.hid (Xg_6.out.under hb)
    have HB_7 := Lib.hid (HB_6.out.trans (hb.mono HB_6.out.size))
    clear hb
    obtain ⟨c0, c1, c2, c3, c4, c5⟩ := Xf_7.out.box
    obtain ⟨d0, d1, d2, d3, d4, d5⟩ := Xg_7.out.box
    go_wp2_with fail
    clear c0 c1 c2 c3 c4 c5 d0 d1 d2 d3 d4 d5
    refine (rleast7 af nf capf zf pf jf OF.out.good ag ng capg zg pg jg OG.out.good _ t rfl (by omega) v HV.out _ Xf_7.out.row Xg_7.out.row).mono ?_
    rintro e w8 ⟨rfl, hb⟩
    have HB_8 := Lib.hid (HB_7.out.trans (hb.mono HB_7.out.size))
    clear hb
    go_wp2_with fail
    refine (awake7 _).mono ?_
    rintro e w9 ⟨rfl, hb⟩
    have HB_9 := Lib.hid (HB_8.out.trans (hb.mono HB_8.out.size))
    clear hb
    go_wp2_with fail
    go_ret
    exact ⟨rfl, HB_9.out⟩
  · have HE := Lib.hid hE
    clear hE
    obtain ⟨c0, c1, c2, c3, c4, c5⟩ := Xf.out.box
    obtain ⟨d0, d1, d2, d3, d4, d5⟩ := Xg.out.box
    go_wp2_with fail
    try rw [hw0]
    clear hw0
    clear c0 c1 c2 c3 c4 c5 d0 d1 d2 d3 d4 d5
    refine (prove_ok af nf capf zf pf jf OF.out.good ag ng capg zg pg jg OG.out.good L HLN.out hL120 _ Xf.out.row Xg.out.row).mono ?_
    rintro e v2 (⟨a, n, cap, hs, r, knc, F, ab, N, A, y1, q1, j1, y2, q2, j2, rfl, hb, hr, hra, hf, hn1, hn2, hLL, hF, hN, hA, hx⟩ | ⟨rfl, hb, hno⟩)
    · exact absurd hf.can HE.out
    obtain ⟨w2, hw⟩ : ∃ W, v2.alloc (.cells #[.slice none 0 0, .int .i64 0, .int .i64 0, .int .i64 0, .slice none 0 0] 40) = W := ⟨_, rfl⟩
    have hz2 : Below v2.heap.size v2 w2 := by rw [← hw]; exact below_box _
    have hz : Below w0.heap.size w0 w2 := hb.trans (hz2.mono hb.size)
    have Xf_2 := Lib.hid (Xf.out.under hz)
    have Xg_2 := Lib.hid (Xg.out.under hz)
    have HB_2 := Lib.hid (HB4.out.trans (hz.mono HB4.out.size))
    have HW2 := Lib.hid hw
    clear hb hno hz hz2 hw
    obtain ⟨c0, c1, c2, c3, c4, c5⟩ := Xf_2.out.box
    obtain ⟨d0, d1, d2, d3, d4, d5⟩ := Xg_2.out.box
    go_upto_region 4 with fail
    try rw [HW2.out]
    go_wp2_with fail
    clear c0 c1 c2 c3 c4 c5 d0 d1 d2 d3 d4 d5
    with_reducible refine ((cof_ok af nf capf zf pf jf OF.out.good ag ng capg zg pg jg OG.out.good L HLN.out hL120 _ Xf_2.out.row Xg_2.out.row).mono fun _ _ h => h.no HE.out).mono ?_
    rintro e v3 ⟨rfl, hb⟩
    obtain ⟨w3, hw⟩ : ∃ W, v3.alloc (.cells #[.slice none 0 0, .int .i64 0, .int .i64 0] 24) = W := ⟨_, rfl⟩
    have hz : Below w2.heap.size w2 w3 := by rw [← hw]; exact hb.trans ((below_box _).mono hb.size)
    have HB_3 := Lib.hid (HB_2.out.trans (hz.mono HB_2.out.size))
    have HW3 := Lib.hid hw
    clear hb hz hw
    go_upto_region 5 with fail
    try rw [HW3.out]
    go_wp2_with fail
    refine (awake7 _).mono ?_
    rintro e w9 ⟨rfl, hb⟩
    have HB_9 := Lib.hid (HB_3.out.trans (hb.mono HB_3.out.size))
    clear hb
    go_wp2_with fail
    go_ret
    exact ⟨rfl, HB_9.out⟩

end Go.Proofs.Ytladmpoopfabdaa
