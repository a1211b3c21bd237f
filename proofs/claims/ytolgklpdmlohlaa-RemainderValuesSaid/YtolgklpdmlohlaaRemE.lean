/- The examples of chapter 6, and the difference as the statements reckon it. By the verifier's side. -/
import Derived.Test.YtolgklpdmlohlaaRemB
import Derived.Test.YtolgklpdmlohlaaPwS
import Derived.Test.YtolgklpdmlohlaaRefA
import Derived.Test.YtolgklpdmlohlaaRefV
namespace Go.Proofs.Ytolgklpdmlohlaa
open Go.RowKit
set_option linter.unusedSimpArgs false
set_option linter.unusedVariables false

theorem r0_good : Good [0] 1 10 := (okC_iff [0] 1 10).1 (by decide)
theorem r1_good : Good [0, 14, 14, 28] 2 14 := (okC_iff [0, 14, 14, 28] 2 14).1 (by decide)
theorem r0_fin : ¬ InfC [0] := by rw [infC_iff]; decide
theorem r1_fin : ¬ InfC [0, 14, 14, 28] := by rw [infC_iff]; decide
theorem r0_at (t : Nat) : atC [0] 1 10 t = 10 * (t : Int) := by
  have hp := r0_good.per (show ¬ ([0] : List Int).getD (([0] : List Int).length - 1) 0 = infV by decide)
  induction t with
  | zero => decide
  | succ t ih => have := hp t (Nat.zero_le _); omega
theorem r1_at (t : Nat) : atC [0, 14, 14, 28] 2 14 t = 14 * (((t + 1) / 2 : Nat) : Int) := by
  have hp := r1_good.per (show ¬ ([0, 14, 14, 28] : List Int).getD (([0, 14, 14, 28] : List Int).length - 1) 0 = infV by decide)
  induction t using Nat.strongRecOn with
  | ind t ih =>
    by_cases h : t < 4
    · have h4 : t = 0 ∨ t = 1 ∨ t = 2 ∨ t = 3 := by omega
      rcases h4 with rfl | rfl | rfl | rfl <;> decide
    · have h1 := hp (t - 2) (by show 2 ≤ t - 2; omega)
      rw [show t - 2 + 2 = t by omega] at h1
      have h2 := ih (t - 2) (by omega)
      omega
theorem ex_dif (t : Nat) : eDif [0] 1 10 [0, 14, 14, 28] 2 14 t = some ((fun t : Nat => max 0 (10 * (t : Int) - 14 * (((t + 1) / 2 : Nat) : Int))) t) := by
  rw [eDif_fin r0_fin r1_fin, r0_at, r1_at]
theorem ex_rmax : ∀ t : Nat, rmax (fun t : Nat => max 0 (10 * (t : Int) - 14 * (((t + 1) / 2 : Nat) : Int))) t = 3 * ((t : Int) - ((t % 2 : Nat) : Int))
  | 0 => by decide
  | t + 1 => by
    show max (rmax _ t) (max 0 (10 * ((t + 1 : Nat) : Int) - 14 * (((t + 1 + 1) / 2 : Nat) : Int))) = _
    rw [ex_rmax t]
    omega
theorem ex_rest (t : Nat) : eRest [0] 1 10 [0, 14, 14, 28] 2 14 t = some (3 * ((t : Int) - ((t % 2 : Nat) : Int))) := by
  rw [← ex_rmax t]; exact maxO_rmax (fun t => ex_dif t) t
theorem ex_rest_can : ECan (eRest [0] 1 10 [0, 14, 14, 28] 2 14) :=
  can_fin (F := fun t => 3 * ((t : Int) - ((t % 2 : Nat) : Int))) (s := 0) (p := 2) (c := 6) (fun t => ex_rest t) (fun t _ => by show 3 * (((t + 2 : Nat) : Int) - (((t + 2) % 2 : Nat) : Int)) = 3 * ((t : Int) - ((t % 2 : Nat) : Int)) + 6; omega) (by omega) (by omega) (by omega) (by show (0 : Int) ≤ 3 * (((0 : Nat) : Int) - ((0 % 2 : Nat) : Int)); decide) (fun t _ => by show 3 * ((t : Int) - ((t % 2 : Nat) : Int)) ≤ 3 * (((t + 1 : Nat) : Int) - (((t + 1) % 2 : Nat) : Int)); omega) (by decide) (by omega)
theorem ex_above (t : Nat) : eAbove [0] 1 10 [0, 14, 14, 28] 2 14 t = some (max 0 (3 * ((t : Int) + 1 - ((t % 2 : Nat) : Int)) - 7)) := by
  refine minO_eq ⟨⟨t + 1 - t % 2, by omega, ?_⟩, fun s hs => ?_⟩
  · rw [ex_dif]; show some (max 0 _) = some (max 0 _); congr 1; omega
  · rw [ex_dif]; refine ole_some ?_; show max 0 _ ≤ max 0 _
    obtain ⟨k, hk⟩ : ∃ k, s = 2 * k ∨ s = 2 * k + 1 := ⟨s / 2, by omega⟩
    obtain ⟨j, hj⟩ : ∃ j, t = 2 * j ∨ t = 2 * j + 1 := ⟨t / 2, by omega⟩
    rcases hk with rfl | rfl <;> rcases hj with rfl | rfl <;> omega
theorem ex_above_can : ECan (eAbove [0] 1 10 [0, 14, 14, 28] 2 14) :=
  can_fin (F := fun t => max 0 (3 * ((t : Int) + 1 - ((t % 2 : Nat) : Int)) - 7)) (s := 2) (p := 2) (c := 6) (fun t => ex_above t) (fun t h => by show max 0 (3 * (((t + 2 : Nat) : Int) + 1 - (((t + 2) % 2 : Nat) : Int)) - 7) = max 0 (3 * ((t : Int) + 1 - ((t % 2 : Nat) : Int)) - 7) + 6; omega) (by omega) (by omega) (by omega) (by decide) (fun t _ => by show max 0 (3 * ((t : Int) + 1 - ((t % 2 : Nat) : Int)) - 7) ≤ max 0 (3 * (((t + 1 : Nat) : Int) + 1 - (((t + 1) % 2 : Nat) : Int)) - 7); omega) (by decide) (by omega)

theorem rest_at (a1 : Option Addr) (n1 cap1 : Nat) (z1 : List Int) (p1 : Nat) (i1 : Int) (g1 : Good z1 p1 i1) (a2 : Option Addr) (n2 cap2 : Nat) (z2 : List Int) (p2 : Nat) (i2 : Int) (g2 : Good z2 p2 i2) (h1 : p1 ≤ 10) (h2 : p2 ≤ 10) {E : Nat → Option Int} (hE : eRest z1 p1 i1 z2 p2 i2 = E)
    (w : World) (r1 : RowZ w a1 n1 cap1 z1) (r2 : RowZ w a2 n2 cap2 z2) : Calls Try.prog 17 #[curV a1 n1 cap1 p1 i1, curV a2 n2 cap2 p2 i2] w (GivesE E w) := by
  subst hE
  obtain ⟨L, hL2, hL⟩ := lcm_small g1 g2 h1 h2
  exact rest_ok a1 n1 cap1 z1 p1 i1 g1 a2 n2 cap2 z2 p2 i2 g2 L hL hL2 w r1 r2
theorem above_at (a1 : Option Addr) (n1 cap1 : Nat) (z1 : List Int) (p1 : Nat) (i1 : Int) (g1 : Good z1 p1 i1) (a2 : Option Addr) (n2 cap2 : Nat) (z2 : List Int) (p2 : Nat) (i2 : Int) (g2 : Good z2 p2 i2) (h1 : p1 ≤ 10) (h2 : p2 ≤ 10) {E : Nat → Option Int} (hE : eAbove z1 p1 i1 z2 p2 i2 = E)
    (w : World) (r1 : RowZ w a1 n1 cap1 z1) (r2 : RowZ w a2 n2 cap2 z2) : Calls Try.prog 19 #[curV a1 n1 cap1 p1 i1, curV a2 n2 cap2 p2 i2] w (GivesE E w) := by
  subst hE
  obtain ⟨L, hL2, hL⟩ := lcm_small g1 g2 h1 h2
  exact above_ok a1 n1 cap1 z1 p1 i1 g1 a2 n2 cap2 z2 p2 i2 g2 L hL hL2 w r1 r2
theorem valid_e (a : Option Addr) (n cap : Nat) (zs : List Int) (p : Nat) (inc : Int) (g : Good zs p inc) (w : World) (h : RowZ w a n cap zs) : Calls Try.prog 33 #[curV a n cap p inc] w (Says (.bool true) w) :=
  rvalid_any a n cap zs p inc ⟨by omega, by have := g.p2; omega⟩ ⟨by have := g.i0; omega, by have := g.i1; omega⟩ true ((okC_iff zs p inc).2 g) w h

theorem enc_dif2 {zs ys : List Int} {p q : Nat} {inc jnc : Int} (g : Good zs p inc) (k : Good ys q jnc) {t : Nat} (ht : t ≤ 1048576) : encF (eDif zs p inc ys q jnc) t = subI (atC zs p inc t) (atC ys q jnc t) := by
  unfold encF eDif subI
  rcases eC_cases k ht with ⟨h1, h2⟩ | ⟨y, h1, h2, h3, h4⟩
  · rw [h1, h2, if_pos rfl, osub_r]; rfl
  · rw [h1, h2, if_neg (by unfold infV; omega)]
    rcases eC_cases g ht with ⟨k1, k2⟩ | ⟨x, k1, k2, k3, k4⟩
    · rw [k1, k2, if_pos rfl]; rfl
    · rw [k1, k2, if_neg (by unfold infV; omega)]; rfl

set_option maxRecDepth 100000 in
set_option maxHeartbeats 3200000 in
theorem ldif_any (a1 : Option Addr) (n1 cap1 : Nat) (z1 : List Int) (p1 : Nat) (i1 : Int) (g1 : Good z1 p1 i1) (a2 : Option Addr) (n2 cap2 : Nat) (z2 : List Int) (p2 : Nat) (i2 : Int) (g2 : Good z2 p2 i2) (ti : Int) (t : Nat) (hti : ti = t) (ht : t < 1048576) (v : Int) (hv : encF (eDif z1 p1 i1 z2 p2 i2) t = v) (w : World) (h1 : RowZ w a1 n1 cap1 z1) (h2 : RowZ w a2 n2 cap2 z2) :
    Calls Try.prog 23 #[curV a1 n1 cap1 p1 i1, curV a2 n2 cap2 p2 i2, .int .i64 ti] w (Says (.int .i64 v) w) := by
  subst hti
  obtain ⟨W, hW⟩ : ∃ W, (w.alloc (.cells #[.slice a1 n1 cap1, .int .i64 p1, .int .i64 i1] 24)).alloc (.cells #[.slice a2 n2 cap2, .int .i64 p2, .int .i64 i2] 24) = W := ⟨_, rfl⟩
  have hB : Below w.heap.size w W := by rw [← hW]; exact ((Below.refl _ _).alloc (Nat.le_refl _) _).alloc (by simp) _
  have K1 := Lib.hid (show Cur3 W w.heap.size (.slice a1 n1 cap1) (.int .i64 p1) (.int .i64 i1) by rw [← hW]; exact (Cur3.new w _ _ _ _).alloc _)
  have K2 := Lib.hid (show Cur3 W (w.heap.size + 1) (.slice a2 n2 cap2) (.int .i64 p2) (.int .i64 i2) by rw [← hW]; exact Cur3.new2 w _ _ _ _ _)
  have HB := Lib.hid hB
  have HR := Lib.hid (And.intro (h1.under hB) (h2.under hB))
  have HG := Lib.hid (And.intro g1 g2)
  have KS := Lib.hid (show ∀ u, Below W.heap.size W u → ((u.cell? ⟨w.heap.size, 0, none⟩ = some (.slice a1 n1 cap1) ∧ u.cell? ⟨w.heap.size, 1, none⟩ = some (.int .i64 p1) ∧ u.cell? ⟨w.heap.size, 2, none⟩ = some (.int .i64 i1)) ∧ (u.cell? ⟨w.heap.size + 1, 0, none⟩ = some (.slice a2 n2 cap2) ∧ u.cell? ⟨w.heap.size + 1, 1, none⟩ = some (.int .i64 p2) ∧ u.cell? ⟨w.heap.size + 1, 2, none⟩ = some (.int .i64 i2))) from fun u hu => by
    have x := K1.out.below hu
    have y := K2.out.below hu
    exact ⟨⟨x.c0, x.c1, x.c2⟩, y.c0, y.c1, y.c2⟩)
  obtain ⟨x, hx⟩ : ∃ x, atC z1 p1 i1 t = x := ⟨_, rfl⟩
  obtain ⟨y, hy⟩ : ∃ y, atC z2 p2 i2 t = y := ⟨_, rfl⟩
  have hvv : v = subI x y := by rw [← hv, ← hx, ← hy]; exact enc_dif2 g1 g2 (by omega)
  have bx := (mid_far g1 (t := t) (by omega)).bd
  have by' := (mid_far g2 (t := t) (by omega)).bd
  rw [hx] at bx
  rw [hy] at by'
  obtain ⟨bx0, bx1, bx2⟩ := bx
  obtain ⟨by0, by1, by2⟩ := by'
  have HX := Lib.hid hx
  have HY := Lib.hid hy
  have S0 := Lib.hid ((Below.refl W.heap.size W).drew)
  have hW1 := hW
  have htb : (t : Int) ≤ 1048576 := by omega
  clear hv hx hy hW hB h1 h2 g1 g2
  go_enter Try.func23, Try.ntmps23
  go_upto_region 1 with fail
  try rw [hW1]
  clear hW1
  refine wp_region_keeps (fun u => ((u.cell? ⟨w.heap.size, 0, none⟩ = some (.slice a1 n1 cap1) ∧ u.cell? ⟨w.heap.size, 1, none⟩ = some (.int .i64 p1) ∧ u.cell? ⟨w.heap.size, 2, none⟩ = some (.int .i64 i1)) ∧ (u.cell? ⟨w.heap.size + 1, 0, none⟩ = some (.slice a2 n2 cap2) ∧ u.cell? ⟨w.heap.size + 1, 1, none⟩ = some (.int .i64 p2) ∧ u.cell? ⟨w.heap.size + 1, 2, none⟩ = some (.int .i64 i2)))) 6 2 (by kernel_rfl) (by kernel_rfl) (KS.out _ S0.out) (fun hHeld0 => ?_)
  refine wpAnyK_take (i := 0) (v := ?_) rfl (by kernel_rfl) (fun _ _ _ h => h) (Or.inl ⟨by rfl, ?_⟩) (by assumption) ?_
  rotate_left
  · (intro w hSw; (try dsimp only at hSw); go_simp; try with_reducible rfl)
  try simp only [Act.put, List.getElem_toArray, List.getElem_cons_zero, List.getElem_cons_succ, List.setIfInBounds_toArray, List.set_cons_zero, List.set_cons_succ]
  refine wpAnyK_take (i := 1) (v := ?_) rfl (by kernel_rfl) (fun _ _ _ h => h) (Or.inl ⟨by rfl, ?_⟩) (by assumption) ?_
  rotate_left
  · (intro w hSw; (try dsimp only at hSw); go_simp; try with_reducible rfl)
  try simp only [Act.put, List.getElem_toArray, List.getElem_cons_zero, List.getElem_cons_succ, List.setIfInBounds_toArray, List.set_cons_zero, List.set_cons_succ]
  refine wpAnyK_take (i := 3) (v := ?_) rfl (by kernel_rfl) (fun _ _ _ h => h) (Or.inl ⟨by rfl, ?_⟩) (by assumption) ?_
  rotate_left
  · (intro w hSw; (try dsimp only at hSw); go_simp; try with_reducible rfl)
  try simp only [Act.put, List.getElem_toArray, List.getElem_cons_zero, List.getElem_cons_succ, List.setIfInBounds_toArray, List.set_cons_zero, List.set_cons_succ]
  refine wpAnyK_take (i := 4) (v := ?_) rfl (by kernel_rfl) (fun _ _ _ h => h) (Or.inl ⟨by rfl, ?_⟩) (by assumption) ?_
  rotate_left
  · (intro w hSw; (try dsimp only at hSw); go_simp; try with_reducible rfl)
  try simp only [Act.put, List.getElem_toArray, List.getElem_cons_zero, List.getElem_cons_succ, List.setIfInBounds_toArray, List.set_cons_zero, List.set_cons_succ]
  refine wpAnyK_step (i := 2) rfl (by kernel_rfl) (fun K hK => ?_)
  go_simp
  with_reducible refine (rat_at a1 n1 cap1 z1 p1 i1 HG.out.1 _ t rfl (by omega) x HX.out _ (HR.out.1.under S0.out)).mono ?_
  rintro e u1 ⟨rfl, hb⟩
  have S1 := Lib.hid (S0.out.trans (hb.mono S0.out.size))
  clear hb
  refine hK.out _ _ (KS.out _ S1.out) (fun hHeld1 => ?_)
  clear hK K hHeld0
  try simp only [Act.put, List.getElem_toArray, List.getElem_cons_zero, List.getElem_cons_succ, List.setIfInBounds_toArray, List.set_cons_zero, List.set_cons_succ]
  refine wpAnyK_step (i := 5) rfl (by kernel_rfl) (fun K hK => ?_)
  go_simp
  with_reducible refine (rat_at a2 n2 cap2 z2 p2 i2 HG.out.2 _ t rfl (by omega) y HY.out _ (HR.out.2.under S1.out)).mono ?_
  rintro e u2 ⟨rfl, hb⟩
  have S2 := Lib.hid (S1.out.trans (hb.mono S1.out.size))
  clear hb
  refine hK.out _ _ (KS.out _ S2.out) (fun hHeld2 => ?_)
  clear hK K hHeld1
  try simp only [Act.put, List.getElem_toArray, List.getElem_cons_zero, List.getElem_cons_succ, List.setIfInBounds_toArray, List.set_cons_zero, List.set_cons_succ]
  refine wpAnyK_done (by kernel_rfl) ?_
  simp only [List.drop_succ_cons, List.drop_zero]
  clear hHeld2
  by_cases e1 : y = 4611686018427387904
  · have e2 : v = 0 := by rw [hvv]; unfold subI infV; rw [if_pos e1]
    subst e2 e1
    clear hvv
    have HP := Lib.hid (HB.out.trans (S2.out.mono HB.out.size))
    go_wp2_with fail
    all_goals go_ret
    all_goals exact ⟨ret_int (by omega), HP.out⟩
  · have t1 : (y == 4611686018427387904) = false := by simpa using e1
    by_cases e2 : x = 4611686018427387904
    · have e3 : v = 4611686018427387904 := by rw [hvv]; unfold subI infV; rw [if_neg e1, if_pos e2]
      subst e3 e2
      clear hvv e1
      have HP := Lib.hid (HB.out.trans (S2.out.mono HB.out.size))
      go_wp2_with fail
      all_goals go_ret
      all_goals exact ⟨ret_int (by omega), HP.out⟩
    · have t2 : (x == 4611686018427387904) = false := by simpa using e2
      have e3 : v = max 0 (x - y) := by rw [hvv]; unfold subI infV; rw [if_neg e1, if_neg e2]
      clear hvv e1 e2
      by_cases h3 : 0 < x - y
      · obtain rfl : x - y = v := by omega
        clear e3
        have HP := Lib.hid (HB.out.trans (S2.out.mono HB.out.size))
        go_wp2_with fail
        all_goals go_ret
        all_goals exact ⟨ret_int (by omega), HP.out⟩
      · obtain rfl : v = 0 := by omega
        clear e3
        have HP := Lib.hid (HB.out.trans (S2.out.mono HB.out.size))
        go_wp2_with fail
        all_goals go_ret
        all_goals exact ⟨ret_int (by omega), HP.out⟩

theorem lits6 (w : World) : Bx ((((w.alloc (.cells #[.int .i64 0] 3)).alloc (.cells #[.int .i64 0, .int .i64 14, .int .i64 14, .int .i64 28] 3)).alloc (.cells #[.slice (some ⟨w.heap.size, 0, none⟩) 1 1, .int .i64 1, .int .i64 10] 24)).alloc (.cells #[.slice (some ⟨w.heap.size + 1, 0, none⟩) 4 4, .int .i64 2, .int .i64 14] 24)) (w.heap.size + 1 + 1) (some ⟨w.heap.size, 0, none⟩) 1 1 1 10 [0] ∧ Bx ((((w.alloc (.cells #[.int .i64 0] 3)).alloc (.cells #[.int .i64 0, .int .i64 14, .int .i64 14, .int .i64 28] 3)).alloc (.cells #[.slice (some ⟨w.heap.size, 0, none⟩) 1 1, .int .i64 1, .int .i64 10] 24)).alloc (.cells #[.slice (some ⟨w.heap.size + 1, 0, none⟩) 4 4, .int .i64 2, .int .i64 14] 24)) (w.heap.size + 1 + 1 + 1) (some ⟨w.heap.size + 1, 0, none⟩) 4 4 2 14 [0, 14, 14, 28] ∧ Below w.heap.size w ((((w.alloc (.cells #[.int .i64 0] 3)).alloc (.cells #[.int .i64 0, .int .i64 14, .int .i64 14, .int .i64 28] 3)).alloc (.cells #[.slice (some ⟨w.heap.size, 0, none⟩) 1 1, .int .i64 1, .int .i64 10] 24)).alloc (.cells #[.slice (some ⟨w.heap.size + 1, 0, none⟩) 4 4, .int .i64 2, .int .i64 14] 24)) := by
  have r1 := rowZ_lit w [0] 3 (by decide) (by decide)
  have r2 := rowZ_lit (w.alloc (.cells #[.int .i64 0] 3)) [0, 14, 14, 28] 3 (by decide) (by decide)
  have e1 : (w.alloc (.cells #[.int .i64 0] 3)).heap.size = w.heap.size + 1 := by simp
  rw [e1] at r2
  have b1 := Cur3.new ((w.alloc (.cells #[.int .i64 0] 3)).alloc (.cells #[.int .i64 0, .int .i64 14, .int .i64 14, .int .i64 28] 3)) (.slice (some ⟨w.heap.size, 0, none⟩) 1 1) (.int .i64 1) (.int .i64 10) 24
  rw [show ((w.alloc (.cells #[.int .i64 0] 3)).alloc (.cells #[.int .i64 0, .int .i64 14, .int .i64 14, .int .i64 28] 3)).heap.size = w.heap.size + 1 + 1 by simp] at b1
  have b2 := Cur3.new (((w.alloc (.cells #[.int .i64 0] 3)).alloc (.cells #[.int .i64 0, .int .i64 14, .int .i64 14, .int .i64 28] 3)).alloc (.cells #[.slice (some ⟨w.heap.size, 0, none⟩) 1 1, .int .i64 1, .int .i64 10] 24)) (.slice (some ⟨w.heap.size + 1, 0, none⟩) 4 4) (.int .i64 2) (.int .i64 14) 24
  rw [show (((w.alloc (.cells #[.int .i64 0] 3)).alloc (.cells #[.int .i64 0, .int .i64 14, .int .i64 14, .int .i64 28] 3)).alloc (.cells #[.slice (some ⟨w.heap.size, 0, none⟩) 1 1, .int .i64 1, .int .i64 10] 24)).heap.size = w.heap.size + 1 + 1 + 1 by simp] at b2
  exact ⟨⟨b1.alloc _, ((r1.alloc _).alloc _).alloc _⟩, ⟨b2, (r2.alloc _).alloc _⟩, ((((Below.refl _ _).alloc (Nat.le_refl _) _).alloc (by simp) _).alloc (by simp; omega) _).alloc (by simp; omega) _⟩

def wants : List Int := [0, 0, 6, 6, 12, 12, 18]
theorem wants_at : ∀ k, k < 7 → wants.getD k 0 = 3 * ((k : Int) - ((k % 2 : Nat) : Int)) := by decide

set_option maxRecDepth 100000 in
set_option maxHeartbeats 3200000 in
theorem awake6 (w : World) : Calls Try.prog 10 #[] w (Says (.bool true) w) := by
  obtain ⟨l1, l2, l3⟩ := lits6 w
  have Xf := Lib.hid l1
  have Xg := Lib.hid l2
  have HB := Lib.hid l3
  clear l1 l2 l3
  go_enter Try.func10, Try.ntmps10
  go_wp2_with fail
  generalize ((((w.alloc (.cells #[.int .i64 0] 3)).alloc (.cells #[.int .i64 0, .int .i64 14, .int .i64 14, .int .i64 28] 3)).alloc (.cells #[.slice (some ⟨w.heap.size, 0, none⟩) 1 1, .int .i64 1, .int .i64 10] 24)).alloc (.cells #[.slice (some ⟨w.heap.size + 1, 0, none⟩) 4 4, .int .i64 2, .int .i64 14] 24)) = w0 at Xf Xg HB ⊢
  refine ((rest_at (some ⟨w.heap.size, 0, none⟩) 1 1 [0] 1 10 r0_good (some ⟨w.heap.size + 1, 0, none⟩) 4 4 [0, 14, 14, 28] 2 14 r1_good (by omega) (by omega) rfl _ Xf.out.row Xg.out.row).mono fun _ _ h => h.ok ex_rest_can).mono ?_
  rintro e v1 ⟨a1, n1, cap1, z1, p1, i1, rfl, hb, hr, hf, hx⟩
  obtain ⟨w1, hw⟩ : ∃ W, v1.alloc (.cells #[.slice a1 n1 cap1, .int .i64 p1, .int .i64 i1] 24) = W := ⟨_, rfl⟩
  have hz : Below w0.heap.size w0 w1 := by rw [← hw]; exact hb.trans ((below_box _).mono hb.size)
  have Xf1 := Lib.hid (Xf.out.under hz)
  have Xg1 := Lib.hid (Xg.out.under hz)
  have HB1 := Lib.hid (HB.out.trans (hz.mono HB.out.size))
  have Xr1 := Lib.hid (show Bx w1 v1.heap.size a1 n1 cap1 p1 i1 z1 by rw [← hw]; exact Bx.new hr)
  have HFr := Lib.hid hf
  have hw1 := hw
  obtain ⟨c0, c1, c2, c3, c4, c5⟩ := Xf1.out.box
  obtain ⟨d0, d1, d2, d3, d4, d5⟩ := Xg1.out.box
  clear hb hr hf hx hz hw
  go_wp2_with fail
  try rw [hw1]
  clear hw1 c0 c1 c2 c3 c4 c5 d0 d1 d2 d3 d4 d5
  refine ((above_at (some ⟨w.heap.size, 0, none⟩) 1 1 [0] 1 10 r0_good (some ⟨w.heap.size + 1, 0, none⟩) 4 4 [0, 14, 14, 28] 2 14 r1_good (by omega) (by omega) rfl _ Xf1.out.row Xg1.out.row).mono fun _ _ h => h.ok ex_above_can).mono ?_
  rintro e v2 ⟨a2, n2, cap2, z2, p2, i2, rfl, hb, hr, hf, hx⟩
  obtain ⟨w2, hw⟩ : ∃ W, v2.alloc (.cells #[.slice a2 n2 cap2, .int .i64 p2, .int .i64 i2] 24) = W := ⟨_, rfl⟩
  have hz : Below w1.heap.size w1 w2 := by rw [← hw]; exact hb.trans ((below_box _).mono hb.size)
  have Xr2 := Lib.hid (Xr1.out.under hz)
  have HB2 := Lib.hid (HB1.out.trans (hz.mono HB1.out.size))
  have Xa2 := Lib.hid (show Bx w2 v2.heap.size a2 n2 cap2 p2 i2 z2 by rw [← hw]; exact Bx.new hr)
  have HFa := Lib.hid hf
  have hl := rowZ_lit w2 wants 3 (by decide) (by decide)
  have hbl : Below w2.heap.size w2 (w2.alloc (.cells #[.int .i64 0, .int .i64 0, .int .i64 6, .int .i64 6, .int .i64 12, .int .i64 12, .int .i64 18] 3)) := below_box _
  have HL3 := Lib.hid (show RowZ (w2.alloc (.cells #[.int .i64 0, .int .i64 0, .int .i64 6, .int .i64 6, .int .i64 12, .int .i64 12, .int .i64 18] 3)) (some ⟨w2.heap.size, 0, none⟩) 7 7 wants from hl)
  have Xr3 := Lib.hid (Xr2.out.under hbl)
  have Xa3 := Lib.hid (Xa2.out.under hbl)
  have HB3 := Lib.hid (HB2.out.trans (hbl.mono HB2.out.size))
  have hw2 := hw
  clear hb hr hf hx hz hw hl hbl
  go_wp2_with fail
  try rw [hw2]
  clear hw2
  generalize w2.alloc (.cells #[.int .i64 0, .int .i64 0, .int .i64 6, .int .i64 6, .int .i64 12, .int .i64 12, .int .i64 18] 3) = w3 at HL3 Xr3 Xa3 HB3 ⊢
  go_loopw [27] (fun s27 wx => ∃ k : Nat, s27 = .int .i64 k ∧ k ≤ 7 ∧ Hid (Below w3.heap.size w3 wx)) (fun s27 _ => 7 - (intOf s27).toNat)
  case atStart => exact ⟨0, by go_num, by omega, Below.refl _ _⟩
  case round =>
    obtain ⟨k, rfl, hk, HBk⟩ := hrel
    obtain ⟨wk, rfl⟩ : ∃ u : World, u = wr := ⟨_, rfl⟩
    by_cases hlt : k < 7
    · have hlti : (k : Int) < 7 := by omega
      obtain ⟨x, hxx, ck⟩ := (HL3.out.under HBk.out).cell k hlt
      cases hxx
      obtain ⟨vv, hvv⟩ : ∃ v, wants.getD k 0 = v := ⟨_, rfl⟩
      rw [hvv] at ck
      have ck : wk.cell? ⟨w2.heap.size, k, none⟩ = some (.int .i64 vv) := by
        have e : ((⟨w2.heap.size, 0, none⟩ : Addr).add k) = ⟨w2.heap.size, k, none⟩ := by unfold Addr.add; by_cases h0 : k = 0 <;> simp [h0]
        rw [← e]; exact ck
      have HVV := Lib.hid (show atC z1 p1 i1 k = vv from HFr.out.at (by rw [ex_rest, ← wants_at k hlt, hvv]))
      obtain ⟨c0, c1, c2, c3, c4, c5⟩ := (Xr3.out.under HBk.out).box
      clear hvv
      go_wp2_with fail
      clear c0 c1 c2 c3 c4 c5 ck
      refine (valid_e a1 n1 cap1 z1 p1 i1 HFr.out.good _ (Xr3.out.under HBk.out).row).mono ?_
      rintro e w4 ⟨rfl, hb⟩
      have HB4 := Lib.hid (HBk.out.trans (hb.mono HBk.out.size))
      clear hb
      obtain ⟨c0, c1, c2, c3, c4, c5⟩ := (Xr3.out.under HB4.out).box
      go_wp2_with fail
      clear c0 c1 c2 c3 c4 c5
      refine (rat_at a1 n1 cap1 z1 p1 i1 HFr.out.good _ k rfl (by omega) vv HVV.out _ (Xr3.out.under HB4.out).row).mono ?_
      rintro e w5 ⟨rfl, hb⟩
      have HB5 := Lib.hid (HB4.out.trans (hb.mono HB4.out.size))
      clear hb
      go_wp2_with fail
      go_roundw
      case rel => exact ⟨k + 1, by go_num, by omega, HB5⟩
      case measure => simp [intOf]; omega
    · obtain rfl : k = 7 := by omega
      obtain ⟨c0, c1, c2, c3, c4, c5⟩ := (Xr3.out.under HBk.out).box
      go_wp2_with fail
      clear c0 c1 c2 c3 c4 c5
      refine (valid_e a1 n1 cap1 z1 p1 i1 HFr.out.good _ (Xr3.out.under HBk.out).row).mono ?_
      rintro e w4 ⟨rfl, hb⟩
      have HB4 := Lib.hid (HBk.out.trans (hb.mono HBk.out.size))
      clear hb
      obtain ⟨c0, c1, c2, c3, c4, c5⟩ := (Xa3.out.under HB4.out).box
      go_wp2_with fail
      clear c0 c1 c2 c3 c4 c5
      refine (valid_e a2 n2 cap2 z2 p2 i2 HFa.out.good _ (Xa3.out.under HB4.out).row).mono ?_
      rintro e w5 ⟨rfl, hb⟩
      have HB5 := Lib.hid (HB4.out.trans (hb.mono HB4.out.size))
      clear hb
      obtain ⟨c0, c1, c2, c3, c4, c5⟩ := (Xa3.out.under HB5.out).box
      go_wp2_with fail
      clear c0 c1 c2 c3 c4 c5
      refine (rat_at a2 n2 cap2 z2 p2 i2 HFa.out.good 2 2 rfl (by omega) 2 (HFa.out.at (by rw [ex_above]; decide)) _ (Xa3.out.under HB5.out).row).mono ?_
      rintro e w6 ⟨rfl, hb⟩
      have HB6 := Lib.hid (HB5.out.trans (hb.mono HB5.out.size))
      clear hb
      obtain ⟨c0, c1, c2, c3, c4, c5⟩ := (Xa3.out.under HB6.out).box
      go_wp2_with fail
      clear c0 c1 c2 c3 c4 c5
      refine (rat_at a2 n2 cap2 z2 p2 i2 HFa.out.good 5 5 rfl (by omega) 8 (HFa.out.at (by rw [ex_above]; decide)) _ (Xa3.out.under HB6.out).row).mono ?_
      rintro e w7 ⟨rfl, hb⟩
      have HB7 := Lib.hid (HB6.out.trans (hb.mono HB6.out.size))
      clear hb
      obtain ⟨c0, c1, c2, c3, c4, c5⟩ := (Xa3.out.under HB7.out).box
      go_wp2_with fail
      clear c0 c1 c2 c3 c4 c5
      refine (rat_at a2 n2 cap2 z2 p2 i2 HFa.out.good 6 6 rfl (by omega) 14 (HFa.out.at (by rw [ex_above]; decide)) _ (Xa3.out.under HB7.out).row).mono ?_
      rintro e w8 ⟨rfl, hb⟩
      have HB8 := Lib.hid (HB7.out.trans (hb.mono HB7.out.size))
      clear hb
      have HZ := Lib.hid (HB3.out.trans (HB8.out.mono HB3.out.size))
      go_wp2_with fail
      go_ret
      exact ⟨rfl, HZ.out⟩

end Go.Proofs.Ytolgklpdmlohlaa
