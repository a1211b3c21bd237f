/- The document's raw difference (remainder). By the verifier's side. -/
import Derived.Test.YtjipmkgnndldpaaHRRe1
namespace Go.Proofs.Ytjipmkgnndldpaa
open Go.RowKit
set_option linter.unusedSimpArgs false
set_option linter.unusedVariables false

set_option maxRecDepth 100000 in
set_option maxHeartbeats 3200000 in
theorem rraw6_any (a1 : Option Addr) (n1 cap1 : Nat) (z1 : List Int) (p1 : Nat) (i1 : Int) (g1 : Good z1 p1 i1) (a2 : Option Addr) (n2 cap2 : Nat) (z2 : List Int) (p2 : Nat) (i2 : Int) (g2 : Good z2 p2 i2) (ti : Int) (t : Nat) (hti : ti = t) (ht : t < 1048576) (v : Int) (hv : atC z1 p1 i1 t - atC z2 p2 i2 t = v) (w : World) (h1 : RowZ w a1 n1 cap1 z1) (h2 : RowZ w a2 n2 cap2 z2) :
    Calls Try.prog 139 #[curV a1 n1 cap1 p1 i1, curV a2 n2 cap2 p2 i2, .int .i64 ti] w (Says (.int .i64 v) w) := by
  subst hti
  obtain ⟨W, hW⟩ : ∃ W, (w.alloc (.cells #[.slice a1 n1 cap1, .int .i64 p1, .int .i64 i1] 38)).alloc (.cells #[.slice a2 n2 cap2, .int .i64 p2, .int .i64 i2] 38) = W := ⟨_, rfl⟩
  have hB : Below w.heap.size w W := by rw [← hW]; exact ((Below.refl _ _).alloc (Nat.le_refl _) _).alloc (by simp) _
  have K1 := Lib.hid (show Cur3 W w.heap.size (.slice a1 n1 cap1) (.int .i64 p1) (.int .i64 i1) by rw [← hW]; exact (Cur3.new w _ _ _ _).alloc _)
  have K2 := Lib.hid (show Cur3 W (w.heap.size + 1) (.slice a2 n2 cap2) (.int .i64 p2) (.int .i64 i2) by rw [← hW]; exact Cur3.new2 w _ _ _ _ _)
  have HB := Lib.hid hB
  have HR := Lib.hid (And.intro (h1.under hB) (h2.under hB))
  have HG := Lib.hid (And.intro g1 g2)
  have KS := Lib.hid (show ∀ u, Below W.heap.size W u → ((u.cell? ⟨w.heap.size, 0, none⟩ = some (.slice a1 n1 cap1) ∧ u.cell? ⟨w.heap.size, 1, none⟩ = some (.int .i64 p1) ∧ u.cell? ⟨w.heap.size, 2, none⟩ = some (.int .i64 i1)) ∧ (u.cell? ⟨w.heap.size + 1, 0, none⟩ = some (.slice a2 n2 cap2) ∧ u.cell? ⟨w.heap.size + 1, 1, none⟩ = some (.int .i64 p2) ∧ u.cell? ⟨w.heap.size + 1, 2, none⟩ = some (.int .i64 i2))) from fun u hu => by
    have x := K1.out.below hu
    have y := K2.out.below hu
    exact ⟨⟨x.c0, x.c1, x.c2⟩, y.c0, y.c1, y.c2⟩)
  obtain ⟨x, hx⟩ : ∃ x, atC z1 p1 i1 t = x := ⟨_, rfl⟩
  obtain ⟨y, hy⟩ : ∃ y, atC z2 p2 i2 t = y := ⟨_, rfl⟩
  have hvv : x - y = v := by rw [← hv, ← hx, ← hy]
  have bx := (mid_far g1 (t := t) (by omega)).bd
  have by' := (mid_far g2 (t := t) (by omega)).bd
  rw [hx] at bx
  rw [hy] at by'
  obtain ⟨bx0, bx1, bx2⟩ := bx
  obtain ⟨by0, by1, by2⟩ := by'
  have HX := Lib.hid hx
  have HY := Lib.hid hy
  have S0 := Lib.hid ((Below.refl W.heap.size W).drew)
  have hW1 := hW
  have htb : (t : Int) ≤ 1048576 := by omega
  clear hv hx hy hW hB h1 h2 g1 g2
  go_enter Try.func139, Try.ntmps139
  go_upto_region 1 with fail
  try rw [hW1]
  clear hW1
  refine wp_region_keeps (fun u => ((u.cell? ⟨w.heap.size, 0, none⟩ = some (.slice a1 n1 cap1) ∧ u.cell? ⟨w.heap.size, 1, none⟩ = some (.int .i64 p1) ∧ u.cell? ⟨w.heap.size, 2, none⟩ = some (.int .i64 i1)) ∧ (u.cell? ⟨w.heap.size + 1, 0, none⟩ = some (.slice a2 n2 cap2) ∧ u.cell? ⟨w.heap.size + 1, 1, none⟩ = some (.int .i64 p2) ∧ u.cell? ⟨w.heap.size + 1, 2, none⟩ = some (.int .i64 i2)))) 7 1 (by kernel_rfl) (by kernel_rfl) (KS.out _ S0.out) (fun hHeld0 => ?_)
  refine wpAnyK_take (i := 0) (v := ?_) rfl (by kernel_rfl) (fun _ _ _ h => h) (Or.inl ⟨by rfl, ?_⟩) (by assumption) ?_
  rotate_left
  · (intro w hSw; (try dsimp only at hSw); go_simp; try with_reducible rfl)
  try simp only [Act.put, List.getElem_toArray, List.getElem_cons_zero, List.getElem_cons_succ, List.setIfInBounds_toArray, List.set_cons_zero, List.set_cons_succ]
  refine wpAnyK_take (i := 1) (v := ?_) rfl (by kernel_rfl) (fun _ _ _ h => h) (Or.inl ⟨by rfl, ?_⟩) (by assumption) ?_
  rotate_left
  · (intro w hSw; (try dsimp only at hSw); go_simp; try with_reducible rfl)
  try simp only [Act.put, List.getElem_toArray, List.getElem_cons_zero, List.getElem_cons_succ, List.setIfInBounds_toArray, List.set_cons_zero, List.set_cons_succ]
  refine wpAnyK_take (i := 3) (v := ?_) rfl (by kernel_rfl) (fun _ _ _ h => h) (Or.inl ⟨by rfl, ?_⟩) (by assumption) ?_
  rotate_left
  · (intro w hSw; (try dsimp only at hSw); go_simp; try with_reducible rfl)
  try simp only [Act.put, List.getElem_toArray, List.getElem_cons_zero, List.getElem_cons_succ, List.setIfInBounds_toArray, List.set_cons_zero, List.set_cons_succ]
  refine wpAnyK_take (i := 4) (v := ?_) rfl (by kernel_rfl) (fun _ _ _ h => h) (Or.inl ⟨by rfl, ?_⟩) (by assumption) ?_
  rotate_left
  · (intro w hSw; (try dsimp only at hSw); go_simp; try with_reducible rfl)
  try simp only [Act.put, List.getElem_toArray, List.getElem_cons_zero, List.getElem_cons_succ, List.setIfInBounds_toArray, List.set_cons_zero, List.set_cons_succ]
  refine wpAnyK_step (i := 2) rfl (by kernel_rfl) (fun K hK => ?_)
  go_simp
  with_reducible refine (rat_at a1 n1 cap1 z1 p1 i1 HG.out.1 _ t rfl (by omega) x HX.out _ (HR.out.1.under S0.out)).mono ?_
  rintro e u1 ⟨rfl, hb⟩
  have S1 := Lib.hid (S0.out.trans (hb.mono S0.out.size))
  clear hb
  refine hK.out _ _ (KS.out _ S1.out) (fun hHeld1 => ?_)
  clear hK K hHeld0
  try simp only [Act.put, List.getElem_toArray, List.getElem_cons_zero, List.getElem_cons_succ, List.setIfInBounds_toArray, List.set_cons_zero, List.set_cons_succ]
  refine wpAnyK_step (i := 5) rfl (by kernel_rfl) (fun K hK => ?_)
  go_simp
  with_reducible refine (rat_at a2 n2 cap2 z2 p2 i2 HG.out.2 _ t rfl (by omega) y HY.out _ (HR.out.2.under S1.out)).mono ?_
  rintro e u2 ⟨rfl, hb⟩
  have S2 := Lib.hid (S1.out.trans (hb.mono S1.out.size))
  clear hb
  refine hK.out _ _ (KS.out _ S2.out) (fun hHeld2 => ?_)
  clear hK K hHeld1
  try simp only [Act.put, List.getElem_toArray, List.getElem_cons_zero, List.getElem_cons_succ, List.setIfInBounds_toArray, List.set_cons_zero, List.set_cons_succ]
  have hsw : IntKind.i64.wrap (x - y) = x - y := IntWalk.i64_in _ ⟨by omega, by omega⟩
  refine wpAnyK_take (i := 6) (v := ?_) rfl (by kernel_rfl) (fun _ _ _ h => h) (Or.inl ⟨by rfl, ?_⟩) (by assumption) ?_
  rotate_left
  · (intro w hSw; (try dsimp only at hSw); go_simp; try with_reducible rfl)
  try simp only [Act.put, List.getElem_toArray, List.getElem_cons_zero, List.getElem_cons_succ, List.setIfInBounds_toArray, List.set_cons_zero, List.set_cons_succ]
  refine wpAnyK_done (by kernel_rfl) ?_
  simp only [List.drop_succ_cons, List.drop_zero]
  clear hHeld2
  subst hvv
  have hsw2 := hsw
  have HP := Lib.hid (HB.out.trans (S2.out.mono HB.out.size))
  go_wp2_with fail
  exact bodyPost_ret (v := .int .i64 (x - y)) (by simp [results, Try.results139, go_sem, hsw]) rfl ⟨rfl, HP.out⟩

end Go.Proofs.Ytjipmkgnndldpaa
