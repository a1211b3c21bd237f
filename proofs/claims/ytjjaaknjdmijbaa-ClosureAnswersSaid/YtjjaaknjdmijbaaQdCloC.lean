/- The least parts; a list of parts is checked; sub-additivity. By the verifier's side. -/
import Derived.Test.YtjjaaknjdmijbaaQdCloB
namespace Go.Proofs.Ytjjaaknjdmijbaa
open Go.RowKit
set_option linter.unusedSimpArgs false
set_option linter.unusedVariables false

theorem make_rowD2 (m : Nat) (hm : m ≤ 40000) (w : World) : (Instr.makeSlice 22 (.int .i64 (m : Int)) (.int .i64 (m : Int))).run Try.prog w = .ok (.slice (some ⟨w.heap.size, 0, none⟩) m m) (w.alloc (.cells (madeCells #[.int .i64 0] m) 3)) := by
  have := run_make_row' (P := Try.prog) 22 3 (.int .i64 0) 8 Try.underlying22 info_int rfl .i64 .i64 m (by omega) (by omega) w
  simpa using this
/-- What a pair holds lies in old blocks. -/
structure QFar (P : QV) (B : Nat) : Prop where
  f1 : ∀ x, P.a1 = some x → 1 ≤ P.n1 → x.block < B
  f2 : ∀ x, P.a2 = some x → 1 ≤ P.n2 → x.block < B
  la : P.A + 1 < B
  lb : P.B + 1 < B
theorem QIn.far {P : QV} {ys hs : List Int} {w : World} (h : QIn P ys hs w) : QFar P w.heap.size := ⟨fun x a b => h.c1.row.far x a b, fun x a b => h.c2.row.far x a b, lt_of_cell h.c1.num, lt_of_cell h.c2.num⟩
theorem QIn.other {P : QV} {ys hs : List Int} {w : World} (h : QIn P ys hs w) {B b : Nat} (hf : QFar P B) (hb : B ≤ b) (i : Nat) (v : Value) : QIn P ys hs (w.setCell ⟨b, i, none⟩ v) := by
  have := hf.la; have := hf.lb
  exact ⟨h.c1.other ⟨by omega, by omega, fun x hx hn => by have := hf.f1 x hx hn; omega⟩ _ _, h.c2.other ⟨by omega, by omega, fun x hx hn => by have := hf.f2 x hx hn; omega⟩ _ _⟩

/-- While the parts are listed: up to t, there so far k. -/
structure QL (w : World) (P : QV) (ys hs : List Int) (V : Nat → Nat) (N lb t k : Nat) (u : World) : Prop where
  pr : P6B u w.heap.size P
  i : QIn P ys hs u
  far : QFar P w.heap.size
  lst : RowF u lb N (fun i => if i < t then ((V i : Nat) : Int) else if i = t then ((k : Nat) : Int) else 0)
  l : w.heap.size < lb
  below : Below w.heap.size w u
section
variable {w u v : World} {P : QV} {ys hs : List Int} {V : Nat → Nat} {N lb t k : Nat}
theorem QL.call (h : QL w P ys hs V N lb t k u) (hb : Below u.heap.size u v) : QL w P ys hs V N lb t k v :=
  ⟨h.pr.below hb, h.i.under hb, h.far, h.lst.under hb, h.l, h.below.trans (hb.mono h.below.size)⟩
theorem QL.put (h : QL w P ys hs V N lb t k u) (ht : t < N) (m : Nat) : QL w P ys hs V N lb t m (u.setCell ⟨lb, t, none⟩ (.int .i64 m)) := by
  have hl := h.l
  refine ⟨h.pr.other (by omega) _ _, h.i.other h.far (by omega) _ _, h.far, (h.lst.set ht (m : Int)).congr fun i hi => ?_, h.l, h.below.setCell (p := ⟨lb, t, none⟩) (by show w.heap.size ≤ lb; omega) _⟩
  by_cases e : i = t
  · subst e; rw [if_pos rfl, if_neg (Nat.lt_irrefl _), if_pos rfl]
  · rw [if_neg e, if_neg e, if_neg e]
theorem QL.next (h : QL w P ys hs V N lb t k u) (hk : k = V t) : QL w P ys hs V N lb (t + 1) 0 u := by
  refine ⟨h.pr, h.i, h.far, h.lst.congr fun i hi => ?_, h.l, h.below⟩
  by_cases e : i = t
  · subst e; rw [if_neg (Nat.lt_irrefl _), if_pos rfl, if_pos (Nat.lt_succ_self _), hk]
  · rw [if_neg e]
    by_cases e2 : i < t
    · rw [if_pos e2, if_pos (by omega)]
    · rw [if_neg e2, if_neg (by omega)]; simp
abbrev QLS (w : World) (P : QV) (ys hs : List Int) (V : Nat → Nat) (N lb t k : Nat) (u : World) : Prop :=
  u.cell? ⟨w.heap.size, 0, none⟩ = some (closPV P.A) ∧ u.cell? ⟨w.heap.size, 1, none⟩ = some (closPV P.B) ∧ u.cell? ⟨w.heap.size, 2, none⟩ = some (.int .i64 P.S) ∧ u.cell? ⟨w.heap.size, 3, none⟩ = some (.int .i64 P.L) ∧ u.cell? ⟨w.heap.size, 4, none⟩ = some (.int .i64 P.R) ∧ u.cell? ⟨w.heap.size, 5, none⟩ = some (.bool P.al) ∧ u.cell? ⟨lb, t, none⟩ = some (.int .i64 k) ∧ u.frozen? ⟨lb, t, none⟩ = false ∧ Hid (QL w P ys hs V N lb t k u)
theorem qls_of (h : QL w P ys hs V N lb t k u) (ht : t < N) : QLS w P ys hs V N lb t k u := by
  obtain ⟨h1, h2⟩ := h.lst.cell t ht
  rw [if_neg (Nat.lt_irrefl _), if_pos rfl] at h1
  exact ⟨h.pr.lo.c0, h.pr.lo.c1, h.pr.lo.c2, h.pr.c3, h.pr.c4, h.pr.c5, h1, h2, h⟩
end

/-- The least first parts. -/
noncomputable def partsF (P : QV) (ys hs : List Int) (t : Nat) : Nat := leastA (fun s => CAtt ys P.q P.j hs P.r P.k P.R s t) t 0

set_option maxRecDepth 100000 in
set_option maxHeartbeats 6400000 in
theorem parts_any (P : QV) (ys hs : List Int) (hP : QIs P ys hs) (hL : P.L ≤ 120) (N : Nat) (hN : P.R + P.L = N) (w : World) (h : QIn P ys hs w) :
    Calls Try.prog 111 #[cpV P] w (GivesRow (fun t => ((partsF P ys hs t : Nat) : Int)) N w) := by
  have hbig := hP.big
  have hmk := make_rowD2 N
  obtain ⟨w1, hw1⟩ : ∃ W, w.alloc (cpO P) = W := ⟨_, rfl⟩
  obtain ⟨hB, kp, hsz⟩ := qpair_box hw1
  obtain ⟨w2, hw2⟩ : ∃ W, w1.alloc (.cells (madeCells #[.int .i64 0] N) 3) = W := ⟨_, rfl⟩
  have hb2 : Below w1.heap.size w1 w2 := by rw [← hw2]; exact (Below.refl _ _).alloc (Nat.le_refl _) _
  obtain ⟨V, hV⟩ : ∃ V : Nat → Nat, partsF P ys hs = V := ⟨_, rfl⟩
  have Z0 := Lib.hid (show QL w P ys hs V N w1.heap.size 1 0 w2 from ⟨kp.below hb2, (h.under hB).under hb2, h.far, (show RowF w2 w1.heap.size N (fun _ => 0) by rw [← hw2]; exact RowF.made w1 N).congr fun i hi => by
    by_cases e : i < 1
    · rw [if_pos e, show i = 0 by omega, ← hV]; rfl
    · rw [if_neg e]; simp, by omega, hB.trans (hb2.mono hB.size)⟩)
  have KP := Lib.hid kp
  have HW1 := Lib.hid hw1
  have HW2 := Lib.hid hw2
  have HP := Lib.hid hP
  have HV := Lib.hid (show ∀ t, leastA (fun s => CAtt ys P.q P.j hs P.r P.k P.R s t) t 0 = V t from fun t => congrFun hV t)
  have hni : (P.R : Int) + (P.L : Int) = (N : Int) := by omega
  have hnw : IntKind.i64.wrap (N : Int) = (N : Int) := IntWalk.i64_in _ ⟨by omega, by omega⟩
  have hmk2 := hmk (by omega)
  have hN1 : 1 ≤ N := by omega
  have hN2 : N ≤ 30000 := by omega
  clear h hB kp hsz hw1 hw2 hb2 hP hV hmk
  go_enter Try.func111, Try.ntmps111
  go_upto_region 1 with fail
  try rw [HW1.out]
  obtain ⟨⟨c0, c1, c2, f0, f1, f2⟩, c3, c4, c5, f3, f4, f5⟩ := KP.out
  go_wp2_with fail
  try rw [HW2.out]
  clear c0 c1 c2 f0 f1 f2 c3 c4 c5 f3 f4 f5 hmk2 HW1 HW2 KP
  obtain ⟨lb, hlb⟩ : ∃ k, w1.heap.size = k := ⟨_, rfl⟩
  rw [hlb] at Z0
  try rw [hlb]
  clear hlb
  go_loopg [4] (N - 1) (fun g s4 wx => ∃ t : Nat, t + g = N ∧ 1 ≤ t ∧ s4 = .int .i64 t ∧ Hid (QL w P ys hs V N lb t 0 wx))
  case atStart => exact ⟨1, by omega, by omega, by go_num, Z0⟩
  case round =>
    obtain ⟨t, htg, ht1, rfl, HS⟩ := hrel
    obtain ⟨wk, rfl⟩ : ∃ u : World, u = wr := ⟨_, rfl⟩
    clear Z0
    by_cases hlt : t < N
    · obtain ⟨g, rfl⟩ : ∃ g, gk = g + 1 := ⟨gk - 1, by omega⟩
      have hlti : (t : Int) < (N : Int) := by omega
      go_wp2_with fail
      go_loopg [] t (fun g2 wx => ∃ k : Nat, k + g2 = t ∧ Hid (∀ u, u < k → ¬ CAtt ys P.q P.j hs P.r P.k P.R u t) ∧ Hid (QL w P ys hs V N lb t k wx))
      case atStart => exact ⟨0, by omega, fun u hu => by omega, HS⟩
      case round =>
        obtain ⟨k, hkg, NA, HT⟩ := hrel
        obtain ⟨wj, rfl⟩ : ∃ u : World, u = wr := ⟨_, rfl⟩
        have HT0 := Lib.hid (HT.out.call (Below.refl _ _).drew)
        have S0 := qls_of HT0.out hlt
        by_cases hkt : k < t
        · obtain ⟨g2, rfl⟩ : ∃ g, gk = g + 1 := ⟨gk - 1, by omega⟩
          have hkti : (k : Int) < (t : Int) := by omega
          have hktd : decide ((k : Int) < (t : Int)) = true := decide_eq_true hkti
          by_cases hca : CAtt ys P.q P.j hs P.r P.k P.R k t
          · have HB := Lib.hid (show ∃ s : Nat, (k : Int) = s ∧ CAtt ys P.q P.j hs P.r P.k P.R s t from ⟨k, rfl, hca⟩)
            have HX := Lib.hid (show k = V t by rw [← HV.out t]; exact (leastA_eq (P := fun s => CAtt ys P.q P.j hs P.r P.k P.R s t) (by omega) (.inr hca) NA.out).symm)
            clear hca
            go_wp2_with fail
            refine wp_region_keeps (fun u => QLS w P ys hs V N lb t k u) 15 1 (by kernel_rfl) (by kernel_rfl) S0 (fun hHeld0 => ?_)
            refine wpAnyK_take (i := 0) (v := ?_) rfl (by kernel_rfl) (fun _ _ _ h => h) (Or.inl ⟨by rfl, ?_⟩) (by assumption) ?_
            rotate_left
            · (intro w hSw; (try dsimp only at hSw); go_simp; try with_reducible rfl)
            try simp only [Act.put, List.getElem_toArray, List.getElem_cons_zero, List.getElem_cons_succ, List.setIfInBounds_toArray, List.set_cons_zero, List.set_cons_succ]
            refine wpAnyK_take (i := 1) (v := ?_) rfl (by kernel_rfl) (fun _ _ _ h => h) (Or.inl ⟨by rfl, ?_⟩) (by assumption) ?_
            rotate_left
            · (intro w hSw; (try dsimp only at hSw); go_simp; try with_reducible rfl)
            try simp only [Act.put, List.getElem_toArray, List.getElem_cons_zero, List.getElem_cons_succ, List.setIfInBounds_toArray, List.set_cons_zero, List.set_cons_succ]
            refine wpAnyK_take (i := 2) (v := ?_) rfl (by kernel_rfl) (fun _ _ _ h => h) (Or.inl ⟨by rfl, ?_⟩) (by assumption) ?_
            rotate_left
            · (intro w hSw; (try dsimp only at hSw); go_simp; try with_reducible rfl)
            try simp only [Act.put, List.getElem_toArray, List.getElem_cons_zero, List.getElem_cons_succ, List.setIfInBounds_toArray, List.set_cons_zero, List.set_cons_succ]
            refine wpAnyK_take (i := 3) (v := ?_) rfl (by kernel_rfl) (fun _ _ _ h => h) (Or.inl ⟨by rfl, ?_⟩) (by assumption) ?_
            rotate_left
            · (intro w hSw; (try dsimp only at hSw); go_simp; try with_reducible rfl)
            try simp only [Act.put, List.getElem_toArray, List.getElem_cons_zero, List.getElem_cons_succ, List.setIfInBounds_toArray, List.set_cons_zero, List.set_cons_succ]
            refine wpAnyK_take (i := 4) (v := ?_) rfl (by kernel_rfl) (fun _ _ _ h => h) (Or.inl ⟨by rfl, ?_⟩) (by assumption) ?_
            rotate_left
            · (intro w hSw; (try dsimp only at hSw); go_simp; try with_reducible rfl)
            try simp only [Act.put, List.getElem_toArray, List.getElem_cons_zero, List.getElem_cons_succ, List.setIfInBounds_toArray, List.set_cons_zero, List.set_cons_succ]
            refine wpAnyK_take (i := 5) (v := ?_) rfl (by kernel_rfl) (fun _ _ _ h => h) (Or.inl ⟨by rfl, ?_⟩) (by assumption) ?_
            rotate_left
            · (intro w hSw; (try dsimp only at hSw); go_simp; try with_reducible rfl)
            try simp only [Act.put, List.getElem_toArray, List.getElem_cons_zero, List.getElem_cons_succ, List.setIfInBounds_toArray, List.set_cons_zero, List.set_cons_succ]
            refine wpAnyK_take (i := 6) (v := ?_) rfl (by kernel_rfl) (fun _ _ _ h => h) (Or.inl ⟨by rfl, ?_⟩) (by assumption) ?_
            rotate_left
            · (intro w hSw; (try dsimp only at hSw); go_simp; try with_reducible rfl)
            try simp only [Act.put, List.getElem_toArray, List.getElem_cons_zero, List.getElem_cons_succ, List.setIfInBounds_toArray, List.set_cons_zero, List.set_cons_succ]
            refine wpAnyK_take (i := 7) (v := ?_) rfl (by kernel_rfl) (fun _ _ _ h => h) (Or.inl ⟨by rfl, ?_⟩) (by assumption) ?_
            rotate_left
            · (intro w hSw; (try dsimp only at hSw); go_simp; try with_reducible rfl)
            try simp only [Act.put, List.getElem_toArray, List.getElem_cons_zero, List.getElem_cons_succ, List.setIfInBounds_toArray, List.set_cons_zero, List.set_cons_succ]
            refine wpAnyK_take (i := 8) (v := ?_) rfl (by kernel_rfl) (fun _ _ _ h => h) (Or.inl ⟨by rfl, ?_⟩) (by assumption) ?_
            rotate_left
            · (intro w hSw; (try dsimp only at hSw); go_simp; try with_reducible rfl)
            try simp only [Act.put, List.getElem_toArray, List.getElem_cons_zero, List.getElem_cons_succ, List.setIfInBounds_toArray, List.set_cons_zero, List.set_cons_succ]
            refine wpAnyK_take (i := 9) (v := ?_) rfl (by kernel_rfl) (fun _ _ _ h => h) (Or.inl ⟨by rfl, ?_⟩) (by assumption) ?_
            rotate_left
            · (intro w hSw; (try dsimp only at hSw); go_simp; try with_reducible rfl)
            try simp only [Act.put, List.getElem_toArray, List.getElem_cons_zero, List.getElem_cons_succ, List.setIfInBounds_toArray, List.set_cons_zero, List.set_cons_succ]
            refine wpAnyK_take (i := 10) (v := ?_) rfl (by kernel_rfl) (fun _ _ _ h => h) (Or.inl ⟨by rfl, ?_⟩) (by assumption) ?_
            rotate_left
            · (intro w hSw; (try dsimp only at hSw); go_simp; try with_reducible rfl)
            try simp only [Act.put, List.getElem_toArray, List.getElem_cons_zero, List.getElem_cons_succ, List.setIfInBounds_toArray, List.set_cons_zero, List.set_cons_succ]
            refine wpAnyK_take (i := 11) (v := ?_) rfl (by kernel_rfl) (fun _ _ _ h => h) (Or.inl ⟨by rfl, ?_⟩) (by assumption) ?_
            rotate_left
            · (intro w hSw; (try dsimp only at hSw); go_simp; try with_reducible rfl)
            try simp only [Act.put, List.getElem_toArray, List.getElem_cons_zero, List.getElem_cons_succ, List.setIfInBounds_toArray, List.set_cons_zero, List.set_cons_succ]
            refine wpAnyK_take (i := 12) (v := ?_) rfl (by kernel_rfl) (fun _ _ _ h => h) (Or.inl ⟨by rfl, ?_⟩) (by assumption) ?_
            rotate_left
            · (intro w hSw; (try dsimp only at hSw); go_simp; try with_reducible rfl)
            try simp only [Act.put, List.getElem_toArray, List.getElem_cons_zero, List.getElem_cons_succ, List.setIfInBounds_toArray, List.set_cons_zero, List.set_cons_succ]
            refine wpAnyK_step (i := 13) rfl (by kernel_rfl) (fun K hK => ?_)
            go_simp
            with_reducible refine (qattains_any P ys hs HP.out _ _ t rfl ht1 (by omega) ⟨by omega, by omega⟩ true ⟨fun _ => HB.out, fun _ => rfl⟩ _ HT0.out.i).mono ?_
            rintro e u9 ⟨rfl, hb9⟩
            have HT1 := Lib.hid (HT0.out.call hb9)
            refine hK.out _ _ (qls_of HT1.out hlt) (fun hHeld1 => ?_)
            clear hK K hHeld0 hb9
            try simp only [Act.put, List.getElem_toArray, List.getElem_cons_zero, List.getElem_cons_succ, List.setIfInBounds_toArray, List.set_cons_zero, List.set_cons_succ]
            refine wpAnyK_take (i := 14) (v := ?_) rfl (by kernel_rfl) (fun _ _ _ h => h) (Or.inl ⟨by rfl, ?_⟩) (by assumption) ?_
            rotate_left
            · (intro w hSw; (try dsimp only at hSw); go_simp; try with_reducible rfl)
            try simp only [Act.put, List.getElem_toArray, List.getElem_cons_zero, List.getElem_cons_succ, List.setIfInBounds_toArray, List.set_cons_zero, List.set_cons_succ]
            refine wpAnyK_done (by kernel_rfl) ?_
            simp only [List.drop_succ_cons, List.drop_zero]
            clear hHeld1
            go_wp2_with fail
            have BN := Lib.hid (HT1.out.next HX.out)
            go_roundg g
            case measure => omega
            case rel => exact ⟨t + 1, by omega, by omega, by go_num, BN⟩
          · have HB := Lib.hid (show ¬ ∃ s : Nat, (k : Int) = s ∧ CAtt ys P.q P.j hs P.r P.k P.R s t from fun h => by obtain ⟨s, he, hc⟩ := h; obtain rfl : k = s := (by omega); exact hca hc)
            have NB := Lib.hid (show ∀ u, u < k + 1 → ¬ CAtt ys P.q P.j hs P.r P.k P.R u t from fun u hu => by
              by_cases e : u = k
              · subst e; exact hca
              · exact NA.out u (by omega))
            clear hca
            go_wp2_with fail
            refine wp_region_keeps (fun u => QLS w P ys hs V N lb t k u) 15 1 (by kernel_rfl) (by kernel_rfl) S0 (fun hHeld0 => ?_)
            refine wpAnyK_take (i := 0) (v := ?_) rfl (by kernel_rfl) (fun _ _ _ h => h) (Or.inl ⟨by rfl, ?_⟩) (by assumption) ?_
            rotate_left
            · (intro w hSw; (try dsimp only at hSw); go_simp; try with_reducible rfl)
            try simp only [Act.put, List.getElem_toArray, List.getElem_cons_zero, List.getElem_cons_succ, List.setIfInBounds_toArray, List.set_cons_zero, List.set_cons_succ]
            refine wpAnyK_take (i := 1) (v := ?_) rfl (by kernel_rfl) (fun _ _ _ h => h) (Or.inl ⟨by rfl, ?_⟩) (by assumption) ?_
            rotate_left
            · (intro w hSw; (try dsimp only at hSw); go_simp; try with_reducible rfl)
            try simp only [Act.put, List.getElem_toArray, List.getElem_cons_zero, List.getElem_cons_succ, List.setIfInBounds_toArray, List.set_cons_zero, List.set_cons_succ]
            refine wpAnyK_take (i := 2) (v := ?_) rfl (by kernel_rfl) (fun _ _ _ h => h) (Or.inl ⟨by rfl, ?_⟩) (by assumption) ?_
            rotate_left
            · (intro w hSw; (try dsimp only at hSw); go_simp; try with_reducible rfl)
            try simp only [Act.put, List.getElem_toArray, List.getElem_cons_zero, List.getElem_cons_succ, List.setIfInBounds_toArray, List.set_cons_zero, List.set_cons_succ]
            refine wpAnyK_take (i := 3) (v := ?_) rfl (by kernel_rfl) (fun _ _ _ h => h) (Or.inl ⟨by rfl, ?_⟩) (by assumption) ?_
            rotate_left
            · (intro w hSw; (try dsimp only at hSw); go_simp; try with_reducible rfl)
            try simp only [Act.put, List.getElem_toArray, List.getElem_cons_zero, List.getElem_cons_succ, List.setIfInBounds_toArray, List.set_cons_zero, List.set_cons_succ]
            refine wpAnyK_take (i := 4) (v := ?_) rfl (by kernel_rfl) (fun _ _ _ h => h) (Or.inl ⟨by rfl, ?_⟩) (by assumption) ?_
            rotate_left
            · (intro w hSw; (try dsimp only at hSw); go_simp; try with_reducible rfl)
            try simp only [Act.put, List.getElem_toArray, List.getElem_cons_zero, List.getElem_cons_succ, List.setIfInBounds_toArray, List.set_cons_zero, List.set_cons_succ]
            refine wpAnyK_take (i := 5) (v := ?_) rfl (by kernel_rfl) (fun _ _ _ h => h) (Or.inl ⟨by rfl, ?_⟩) (by assumption) ?_
            rotate_left
            · (intro w hSw; (try dsimp only at hSw); go_simp; try with_reducible rfl)
            try simp only [Act.put, List.getElem_toArray, List.getElem_cons_zero, List.getElem_cons_succ, List.setIfInBounds_toArray, List.set_cons_zero, List.set_cons_succ]
            refine wpAnyK_take (i := 6) (v := ?_) rfl (by kernel_rfl) (fun _ _ _ h => h) (Or.inl ⟨by rfl, ?_⟩) (by assumption) ?_
            rotate_left
            · (intro w hSw; (try dsimp only at hSw); go_simp; try with_reducible rfl)
            try simp only [Act.put, List.getElem_toArray, List.getElem_cons_zero, List.getElem_cons_succ, List.setIfInBounds_toArray, List.set_cons_zero, List.set_cons_succ]
            refine wpAnyK_take (i := 7) (v := ?_) rfl (by kernel_rfl) (fun _ _ _ h => h) (Or.inl ⟨by rfl, ?_⟩) (by assumption) ?_
            rotate_left
            · (intro w hSw; (try dsimp only at hSw); go_simp; try with_reducible rfl)
            try simp only [Act.put, List.getElem_toArray, List.getElem_cons_zero, List.getElem_cons_succ, List.setIfInBounds_toArray, List.set_cons_zero, List.set_cons_succ]
            refine wpAnyK_take (i := 8) (v := ?_) rfl (by kernel_rfl) (fun _ _ _ h => h) (Or.inl ⟨by rfl, ?_⟩) (by assumption) ?_
            rotate_left
            · (intro w hSw; (try dsimp only at hSw); go_simp; try with_reducible rfl)
            try simp only [Act.put, List.getElem_toArray, List.getElem_cons_zero, List.getElem_cons_succ, List.setIfInBounds_toArray, List.set_cons_zero, List.set_cons_succ]
            refine wpAnyK_take (i := 9) (v := ?_) rfl (by kernel_rfl) (fun _ _ _ h => h) (Or.inl ⟨by rfl, ?_⟩) (by assumption) ?_
            rotate_left
            · (intro w hSw; (try dsimp only at hSw); go_simp; try with_reducible rfl)
            try simp only [Act.put, List.getElem_toArray, List.getElem_cons_zero, List.getElem_cons_succ, List.setIfInBounds_toArray, List.set_cons_zero, List.set_cons_succ]
            refine wpAnyK_take (i := 10) (v := ?_) rfl (by kernel_rfl) (fun _ _ _ h => h) (Or.inl ⟨by rfl, ?_⟩) (by assumption) ?_
            rotate_left
            · (intro w hSw; (try dsimp only at hSw); go_simp; try with_reducible rfl)
            try simp only [Act.put, List.getElem_toArray, List.getElem_cons_zero, List.getElem_cons_succ, List.setIfInBounds_toArray, List.set_cons_zero, List.set_cons_succ]
            refine wpAnyK_take (i := 11) (v := ?_) rfl (by kernel_rfl) (fun _ _ _ h => h) (Or.inl ⟨by rfl, ?_⟩) (by assumption) ?_
            rotate_left
            · (intro w hSw; (try dsimp only at hSw); go_simp; try with_reducible rfl)
            try simp only [Act.put, List.getElem_toArray, List.getElem_cons_zero, List.getElem_cons_succ, List.setIfInBounds_toArray, List.set_cons_zero, List.set_cons_succ]
            refine wpAnyK_take (i := 12) (v := ?_) rfl (by kernel_rfl) (fun _ _ _ h => h) (Or.inl ⟨by rfl, ?_⟩) (by assumption) ?_
            rotate_left
            · (intro w hSw; (try dsimp only at hSw); go_simp; try with_reducible rfl)
            try simp only [Act.put, List.getElem_toArray, List.getElem_cons_zero, List.getElem_cons_succ, List.setIfInBounds_toArray, List.set_cons_zero, List.set_cons_succ]
            refine wpAnyK_step (i := 13) rfl (by kernel_rfl) (fun K hK => ?_)
            go_simp
            with_reducible refine (qattains_any P ys hs HP.out _ _ t rfl ht1 (by omega) ⟨by omega, by omega⟩ false ⟨fun h => Bool.noConfusion h, fun h => absurd h HB.out⟩ _ HT0.out.i).mono ?_
            rintro e u9 ⟨rfl, hb9⟩
            have HT1 := Lib.hid (HT0.out.call hb9)
            refine hK.out _ _ (qls_of HT1.out hlt) (fun hHeld1 => ?_)
            clear hK K hHeld0 hb9
            try simp only [Act.put, List.getElem_toArray, List.getElem_cons_zero, List.getElem_cons_succ, List.setIfInBounds_toArray, List.set_cons_zero, List.set_cons_succ]
            refine wpAnyK_take (i := 14) (v := ?_) rfl (by kernel_rfl) (fun _ _ _ h => h) (Or.inl ⟨by rfl, ?_⟩) (by assumption) ?_
            rotate_left
            · (intro w hSw; (try dsimp only at hSw); go_simp; try with_reducible rfl)
            try simp only [Act.put, List.getElem_toArray, List.getElem_cons_zero, List.getElem_cons_succ, List.setIfInBounds_toArray, List.set_cons_zero, List.set_cons_succ]
            refine wpAnyK_done (by kernel_rfl) ?_
            simp only [List.drop_succ_cons, List.drop_zero]
            clear hHeld1
            have hkw : IntKind.i64.wrap ((k : Int) + 1) = ((k + 1 : Nat) : Int) := by rw [IntWalk.i64_in _ ⟨by omega, by omega⟩]; omega
            have HQ := Lib.hid (HT1.out.put hlt (k + 1))
            obtain ⟨q0, q1, q2, q3, q4, q5, q6, q7, _⟩ := qls_of HT1.out hlt
            clear S0
            go_wp2_with fail
            go_roundg g2
            case measure => omega
            case rel => exact ⟨k + 1, by omega, NB, HQ⟩
        · obtain rfl : k = t := by omega
          have hkti : ¬ (k : Int) < (k : Int) := by omega
          have hktd : decide ((k : Int) < (k : Int)) = false := decide_eq_false hkti
          have HX := Lib.hid (show k = V k by rw [← HV.out k]; exact (leastA_eq (P := fun s => CAtt ys P.q P.j hs P.r P.k P.R s k) (by omega) (.inl rfl) NA.out).symm)
          go_wp2_with fail
          refine wp_region_keeps (fun u => QLS w P ys hs V N lb k k u) 15 1 (by kernel_rfl) (by kernel_rfl) S0 (fun hHeld0 => ?_)
          refine wpAnyK_take (i := 0) (v := ?_) rfl (by kernel_rfl) (fun _ _ _ h => h) (Or.inl ⟨by rfl, ?_⟩) (by assumption) ?_
          rotate_left
          · (intro w hSw; (try dsimp only at hSw); go_simp; try with_reducible rfl)
          try simp only [Act.put, List.getElem_toArray, List.getElem_cons_zero, List.getElem_cons_succ, List.setIfInBounds_toArray, List.set_cons_zero, List.set_cons_succ]
          refine wpAnyK_take (i := 1) (v := ?_) rfl (by kernel_rfl) (fun _ _ _ h => h) (Or.inl ⟨by rfl, ?_⟩) (by assumption) ?_
          rotate_left
          · (intro w hSw; (try dsimp only at hSw); go_simp; try with_reducible rfl)
          try simp only [Act.put, List.getElem_toArray, List.getElem_cons_zero, List.getElem_cons_succ, List.setIfInBounds_toArray, List.set_cons_zero, List.set_cons_succ]
          refine wpAnyK_take (i := 2) (v := ?_) rfl (by kernel_rfl) (fun _ _ _ h => h) (Or.inl ⟨by rfl, ?_⟩) (by assumption) ?_
          rotate_left
          · (intro w hSw; (try dsimp only at hSw); go_simp; try with_reducible rfl)
          try simp only [Act.put, List.getElem_toArray, List.getElem_cons_zero, List.getElem_cons_succ, List.setIfInBounds_toArray, List.set_cons_zero, List.set_cons_succ]
          refine wpAnyK_take (i := 3) (v := ?_) rfl (by kernel_rfl) (fun _ _ _ h => h) (Or.inl ⟨by rfl, ?_⟩) (by assumption) ?_
          rotate_left
          · (intro w hSw; (try dsimp only at hSw); go_simp; try with_reducible rfl)
          try simp only [Act.put, List.getElem_toArray, List.getElem_cons_zero, List.getElem_cons_succ, List.setIfInBounds_toArray, List.set_cons_zero, List.set_cons_succ]
          refine wpAnyK_take (i := 4) (v := ?_) rfl (by kernel_rfl) (fun _ _ _ h => h) (Or.inl ⟨by rfl, ?_⟩) (by assumption) ?_
          rotate_left
          · (intro w hSw; (try dsimp only at hSw); go_simp; try with_reducible rfl)
          try simp only [Act.put, List.getElem_toArray, List.getElem_cons_zero, List.getElem_cons_succ, List.setIfInBounds_toArray, List.set_cons_zero, List.set_cons_succ]
          refine wpAnyK_take (i := 5) (v := ?_) rfl (by kernel_rfl) (fun _ _ _ h => h) (Or.inl ⟨by rfl, ?_⟩) (by assumption) ?_
          rotate_left
          · (intro w hSw; (try dsimp only at hSw); go_simp; try with_reducible rfl)
          try simp only [Act.put, List.getElem_toArray, List.getElem_cons_zero, List.getElem_cons_succ, List.setIfInBounds_toArray, List.set_cons_zero, List.set_cons_succ]
          refine wpAnyK_take (i := 6) (v := ?_) rfl (by kernel_rfl) (fun _ _ _ h => h) (Or.inl ⟨by rfl, ?_⟩) (by assumption) ?_
          rotate_left
          · (intro w hSw; (try dsimp only at hSw); go_simp; try with_reducible rfl)
          try simp only [Act.put, List.getElem_toArray, List.getElem_cons_zero, List.getElem_cons_succ, List.setIfInBounds_toArray, List.set_cons_zero, List.set_cons_succ]
          refine wpAnyK_take (i := 7) (v := undef) rfl (by kernel_rfl) (fun _ _ _ h => h) (Or.inr ⟨by rfl, rfl⟩) (by assumption) ?_
          try simp only [Act.put, List.getElem_toArray, List.getElem_cons_zero, List.getElem_cons_succ, List.setIfInBounds_toArray, List.set_cons_zero, List.set_cons_succ]
          refine wpAnyK_take (i := 8) (v := undef) rfl (by kernel_rfl) (fun _ _ _ h => h) (Or.inr ⟨by rfl, rfl⟩) (by assumption) ?_
          try simp only [Act.put, List.getElem_toArray, List.getElem_cons_zero, List.getElem_cons_succ, List.setIfInBounds_toArray, List.set_cons_zero, List.set_cons_succ]
          refine wpAnyK_take (i := 9) (v := undef) rfl (by kernel_rfl) (fun _ _ _ h => h) (Or.inr ⟨by rfl, rfl⟩) (by assumption) ?_
          try simp only [Act.put, List.getElem_toArray, List.getElem_cons_zero, List.getElem_cons_succ, List.setIfInBounds_toArray, List.set_cons_zero, List.set_cons_succ]
          refine wpAnyK_take (i := 10) (v := undef) rfl (by kernel_rfl) (fun _ _ _ h => h) (Or.inr ⟨by rfl, rfl⟩) (by assumption) ?_
          try simp only [Act.put, List.getElem_toArray, List.getElem_cons_zero, List.getElem_cons_succ, List.setIfInBounds_toArray, List.set_cons_zero, List.set_cons_succ]
          refine wpAnyK_take (i := 11) (v := undef) rfl (by kernel_rfl) (fun _ _ _ h => h) (Or.inr ⟨by rfl, rfl⟩) (by assumption) ?_
          try simp only [Act.put, List.getElem_toArray, List.getElem_cons_zero, List.getElem_cons_succ, List.setIfInBounds_toArray, List.set_cons_zero, List.set_cons_succ]
          refine wpAnyK_take (i := 12) (v := undef) rfl (by kernel_rfl) (fun _ _ _ h => h) (Or.inr ⟨by rfl, rfl⟩) (by assumption) ?_
          try simp only [Act.put, List.getElem_toArray, List.getElem_cons_zero, List.getElem_cons_succ, List.setIfInBounds_toArray, List.set_cons_zero, List.set_cons_succ]
          refine wpAnyK_take (i := 13) (v := undef) rfl (by kernel_rfl) (fun _ _ _ h => h) (Or.inr ⟨by rfl, rfl⟩) (by assumption) ?_
          try simp only [Act.put, List.getElem_toArray, List.getElem_cons_zero, List.getElem_cons_succ, List.setIfInBounds_toArray, List.set_cons_zero, List.set_cons_succ]
          refine wpAnyK_take (i := 14) (v := undef) rfl (by kernel_rfl) (fun _ _ _ h => h) (Or.inr ⟨by rfl, rfl⟩) (by assumption) ?_
          try simp only [Act.put, List.getElem_toArray, List.getElem_cons_zero, List.getElem_cons_succ, List.setIfInBounds_toArray, List.set_cons_zero, List.set_cons_succ]
          refine wpAnyK_done (by kernel_rfl) ?_
          simp only [List.drop_succ_cons, List.drop_zero]
          clear hHeld0
          have BN := Lib.hid (HT0.out.next HX.out)
          go_wp2_with fail
          go_roundg g
          case measure => omega
          case rel => exact ⟨k + 1, by omega, by omega, by go_num, BN⟩
    · obtain rfl : t = N := by omega
      have hlti : ¬ (t : Int) < (t : Int) := by omega
      go_wp2_with fail
      go_ret
      exact ⟨lb, rfl, HS.out.below, Nat.le_of_lt HS.out.l, HS.out.lst.congr fun i hi => by rw [if_pos hi, ← HV.out i]; rfl⟩


/-- While a list of parts is checked. -/
structure QA (w : World) (P : QV) (ys hs : List Int) (ax : Addr) (m mc : Nat) (ts : List Int) (u : World) : Prop where
  pr : P6B u w.heap.size P
  i : QIn P ys hs u
  row : RowZ u (some ax) m mc ts
  below : Below w.heap.size w u
theorem QA.call {w u v : World} {P : QV} {ys hs : List Int} {ax : Addr} {m mc : Nat} {ts : List Int} (h : QA w P ys hs ax m mc ts u) (hb : Below u.heap.size u v) : QA w P ys hs ax m mc ts v :=
  ⟨h.pr.below hb, h.i.under hb, h.row.under hb, h.below.trans (hb.mono h.below.size)⟩
/-- What the test of the values says. -/
theorem sub_iff {zs : List Int} {p : Nat} {inc : Int} (g : Good zs p inc) : (∀ s, s < zs.length → ∀ u, u ≤ s → atC zs p inc (s + u) ≤ plI (atC zs p inc s) (atC zs p inc u)) ↔ SubA (eC zs p inc) := by
  have key : ∀ {s u : Nat}, s ≤ 1000 → u ≤ 1000 → (atC zs p inc (s + u) ≤ plI (atC zs p inc s) (atC zs p inc u) ↔ ole (eC zs p inc (s + u)) (oadd (eC zs p inc s) (eC zs p inc u))) := fun {s u} hs hu => by
    rcases eC_cases g (show s + u ≤ 1048576 by omega) with ⟨a1, a2⟩ | ⟨x, a1, a2, a3, a4⟩ <;> rcases eC_cases g (show s ≤ 1048576 by omega) with ⟨b1, b2⟩ | ⟨y, b1, b2, b3, b4⟩ <;> rcases eC_cases g (show u ≤ 1048576 by omega) with ⟨c1, c2⟩ | ⟨z, c1, c2, c3, c4⟩ <;> rw [a1, b1, c1, a2, b2, c2]
    · exact ⟨fun _ => ole_none _, fun _ => by rw [plI_l]; exact Int.le_refl _⟩
    · exact ⟨fun _ => ole_none _, fun _ => by rw [plI_l]; exact Int.le_refl _⟩
    · exact ⟨fun _ => ole_none _, fun _ => by rw [plI_r]; exact Int.le_refl _⟩
    · rw [plI_fin (by unfold infV; omega) (by unfold infV; omega)]
      exact ⟨fun h => by unfold infV at h; omega, fun h => by obtain ⟨_, h, _⟩ := h _ rfl; cases h⟩
    · exact ⟨fun _ => ole_none _, fun _ => by rw [plI_l]; unfold infV; omega⟩
    · exact ⟨fun _ => ole_none _, fun _ => by rw [plI_l]; unfold infV; omega⟩
    · exact ⟨fun _ => ole_none _, fun _ => by rw [plI_r]; unfold infV; omega⟩
    · rw [plI_fin (by unfold infV; omega) (by unfold infV; omega)]
      exact ⟨fun h => ole_some h, fun h => by obtain ⟨_, h, h2⟩ := h _ rfl; cases h; exact h2⟩
  have hf := g.few
  have g1 := g.p1
  have g3 := g.p3
  constructor
  · intro h
    have h2 : ∀ a b, a < zs.length → b < zs.length → ole (eC zs p inc (a + b)) (oadd (eC zs p inc a) (eC zs p inc b)) := fun a b ha hb => by
      rcases Nat.le_total b a with hl | hl
      · exact (key (by omega) (by omega)).1 (h a ha b hl)
      · rw [Nat.add_comm, oadd_comm]; exact (key (by omega) (by omega)).1 (h b hb a hl)
    by_cases hi : InfC zs
    · obtain ⟨rfl, rfl⟩ := g.tailI hi
      exact sub_per (s := zs.length - 1) (p := 1) (c := 0) (by omega) (fun t ht => by rw [eC_late g hi (by omega), eC_late g hi ht]; rfl) fun a b ha hb => h2 a b (by omega) (by omega)
    · exact sub_per (s := zs.length - p) (p := p) (c := inc) g1 (fun t ht => by rw [eC_fin hi, eC_fin hi, g.per hi t ht]; rfl) fun a b ha hb => h2 a b (by omega) (by omega)
  · intro h s hs u hu
    exact (key (by omega) (by omega)).2 (h s u)

/-- While sub-additivity is tested. -/
structure SUB (w : World) (a : Option Addr) (n cap : Nat) (zs : List Int) (p : Nat) (inc : Int) (B : Nat) (u : World) : Prop where
  cl : ClosP u B a n cap zs p inc
  below : Below w.heap.size w u
theorem SUB.call {w u v : World} {a : Option Addr} {n cap : Nat} {zs : List Int} {p : Nat} {inc : Int} {B : Nat} (h : SUB w a n cap zs p inc B u) (hb : Below u.heap.size u v) : SUB w a n cap zs p inc B v := ⟨h.cl.under hb, h.below.trans (hb.mono h.below.size)⟩

set_option maxRecDepth 100000 in
set_option maxHeartbeats 6400000 in
theorem subadd_any (a : Option Addr) (n cap : Nat) (zs : List Int) (p : Nat) (inc : Int) (g : Good zs p inc) (b : Bool) (hb : b = true ↔ SubA (eC zs p inc)) (w : World) (h : RowZ w a n cap zs) :
    Calls Try.prog 116 #[curV a n cap p inc] w (Says (.bool b) w) := by
  rw [← sub_iff g] at hb
  obtain ⟨w1, hw1⟩ : ∃ W, w.alloc (.cells #[.slice a n cap, .int .i64 p, .int .i64 inc] 24) = W := ⟨_, rfl⟩
  have hb1 : Below w.heap.size w w1 := by rw [← hw1]; exact (Below.refl _ _).alloc (Nat.le_refl _) _
  have CB := Lib.hid (show Cur3 w1 w.heap.size (.slice a n cap) (.int .i64 p) (.int .i64 inc) by rw [← hw1]; exact Cur3.new w _ _ _ _)
  have RW := Lib.hid (h.under hb1)
  have HB := Lib.hid hb1
  have G0 := Lib.hid g
  have HW1 := Lib.hid hw1
  have HBB := Lib.hid hb
  have hlen : zs.length = n := h.len
  have hfew : n ≤ 400 := by have := g.few; omega
  have ev : ∀ (args : Array Value) (w : World), (callFunc 181 args).run Try.prog w = .ok (.enter 181 args) w := enters_of Try.func181 (by kernel_rfl) rfl
  clear h g hb1 hw1 hb
  go_enter Try.func116, Try.ntmps116
  go_upto_region 1 with fail
  try rw [HW1.out]
  obtain ⟨c0, c1, c2, f0, f1, f2⟩ := CB.out
  go_wp2_with fail
  refine (pvalues_p a n cap zs p inc G0.out _ RW.out).mono ?_
  rintro e w3 ⟨B, rfl, hb, hlB, hmB, hcl⟩
  have Z0 := Lib.hid (show SUB w a n cap zs p inc B w3 from ⟨hcl, HB.out.trans (hb.mono HB.out.size)⟩)
  clear c0 c1 c2 f0 f1 f2
  obtain ⟨c0, c1, c2, f0, f1, f2⟩ := CB.out.below hb
  clear hb hlB hmB hcl
  go_wp2_with fail
  clear c0 c1 c2 f0 f1 f2 CB RW HB HW1
  go_loopg [11] n (fun g s11 wx => ∃ s : Nat, s + g = n ∧ s11 = .int .i64 s ∧ Hid (∀ s', s' < s → ∀ u, u ≤ s' → atC zs p inc (s' + u) ≤ plI (atC zs p inc s') (atC zs p inc u)) ∧ Hid (SUB w a n cap zs p inc B wx))
  case atStart => exact ⟨0, by omega, by go_num, fun s' h => by omega, Z0⟩
  case round =>
    obtain ⟨s, hsg, rfl, AL, HS⟩ := hrel
    obtain ⟨wk, rfl⟩ : ∃ u : World, u = wr := ⟨_, rfl⟩
    clear Z0
    by_cases hlt : s < n
    · obtain ⟨g, rfl⟩ : ∃ g, gk = g + 1 := ⟨gk - 1, by omega⟩
      have hlti : (s : Int) < (n : Int) := by omega
      obtain ⟨s1, hs1⟩ : ∃ k, s + 1 = k := ⟨_, rfl⟩
      have hs1i : (s : Int) + 1 = (s1 : Int) := by omega
      have hs1w : IntKind.i64.wrap (s1 : Int) = (s1 : Int) := IntWalk.i64_in _ ⟨by omega, by omega⟩
      go_wp2_with fail
      go_loopg [16] s1 (fun g2 s16 wx => ∃ u : Nat, u + g2 = s1 ∧ s16 = .int .i64 u ∧ Hid (∀ u', u' < u → atC zs p inc (s + u') ≤ plI (atC zs p inc s) (atC zs p inc u')) ∧ Hid (SUB w a n cap zs p inc B wx))
      case atStart => exact ⟨0, by omega, by go_num, fun u' h => by omega, HS⟩
      case round =>
        obtain ⟨u, hug, rfl, AU, HT⟩ := hrel
        obtain ⟨wj, rfl⟩ : ∃ u : World, u = wr := ⟨_, rfl⟩
        by_cases hlu : u < s1
        · obtain ⟨g2, rfl⟩ : ∃ g, gk = g + 1 := ⟨gk - 1, by omega⟩
          have hlui : (u : Int) < (s1 : Int) := by omega
          obtain ⟨d, hd⟩ : ∃ k, s + u = k := ⟨_, rfl⟩
          have hdi : (s : Int) + (u : Int) = (d : Int) := by omega
          have hdw : IntKind.i64.wrap (d : Int) = (d : Int) := IntWalk.i64_in _ ⟨by omega, by omega⟩
          obtain ⟨x, hx⟩ : ∃ x, atC zs p inc d = x := ⟨_, rfl⟩
          obtain ⟨y, hy⟩ : ∃ y, atC zs p inc s = y := ⟨_, rfl⟩
          obtain ⟨z, hz⟩ : ∃ z, atC zs p inc u = z := ⟨_, rfl⟩
          have HM := Lib.hid (And.intro (show Mid y by rw [← hy]; exact at_mid2 G0.out (by omega)) (show Mid z by rw [← hz]; exact at_mid2 G0.out (by omega)))
          obtain ⟨pv, hpv⟩ : ∃ pv, plI y z = pv := ⟨_, rfl⟩
          have HX := Lib.hid hx
          have HY := Lib.hid hy
          have HZ := Lib.hid hz
          have HPV := Lib.hid hpv
          have HD := Lib.hid hd
          clear hx hy hz hpv hd
          by_cases hgt : pv < x
          · have t1 : pv < x := hgt
            have t2 : decide (pv < x) = true := decide_eq_true hgt
            have hbf : b = false := by
              cases hbb : b with
              | false => rfl
              | true =>
                exfalso
                have := HBB.out.1 hbb s (by omega) u (by omega)
                rw [HD.out, HX.out, HY.out, HZ.out, HPV.out] at this
                omega
            subst hbf
            go_wp2_with fail
            with_reducible refine (atp_any B a n cap zs p inc d (by omega) _ HT.out.cl).mono ?_
            rintro e u3 ⟨rfl, hd3⟩
            have HT1 := Lib.hid (HT.out.call (below_dr (Below.refl _ _) hd3))
            clear hd3
            rw [HX.out]
            go_wp2_with fail
            with_reducible refine (atp_any B a n cap zs p inc s (by omega) _ HT1.out.cl).mono ?_
            rintro e u4 ⟨rfl, hd3⟩
            have HT2 := Lib.hid (HT1.out.call (below_dr (Below.refl _ _) hd3))
            clear hd3
            rw [HY.out]
            go_wp2_with fail
            with_reducible refine (atp_any B a n cap zs p inc u (by omega) _ HT2.out.cl).mono ?_
            rintro e u5 ⟨rfl, hd3⟩
            have HT3 := Lib.hid (HT2.out.call (below_dr (Below.refl _ _) hd3))
            clear hd3
            rw [HZ.out]
            go_wp2_with fail
            with_reducible refine (pplus_any y z HM.out.1 HM.out.2 _).mono ?_
            rintro e u6 ⟨rfl, rfl⟩
            rw [HPV.out]
            go_wp2_with fail
            go_ret
            exact ⟨rfl, HT3.out.below⟩
          · have t1 : ¬ pv < x := hgt
            have t2 : decide (pv < x) = false := decide_eq_false hgt
            have AN := Lib.hid (show ∀ u', u' < u + 1 → atC zs p inc (s + u') ≤ plI (atC zs p inc s) (atC zs p inc u') from fun u' hu' => by
              by_cases e : u' = u
              · subst e; rw [HD.out, HX.out, HY.out, HZ.out, HPV.out]; omega
              · exact AU.out u' (by omega))
            go_wp2_with fail
            with_reducible refine (atp_any B a n cap zs p inc d (by omega) _ HT.out.cl).mono ?_
            rintro e u3 ⟨rfl, hd3⟩
            have HT1 := Lib.hid (HT.out.call (below_dr (Below.refl _ _) hd3))
            clear hd3
            rw [HX.out]
            go_wp2_with fail
            with_reducible refine (atp_any B a n cap zs p inc s (by omega) _ HT1.out.cl).mono ?_
            rintro e u4 ⟨rfl, hd3⟩
            have HT2 := Lib.hid (HT1.out.call (below_dr (Below.refl _ _) hd3))
            clear hd3
            rw [HY.out]
            go_wp2_with fail
            with_reducible refine (atp_any B a n cap zs p inc u (by omega) _ HT2.out.cl).mono ?_
            rintro e u5 ⟨rfl, hd3⟩
            have HT3 := Lib.hid (HT2.out.call (below_dr (Below.refl _ _) hd3))
            clear hd3
            rw [HZ.out]
            go_wp2_with fail
            with_reducible refine (pplus_any y z HM.out.1 HM.out.2 _).mono ?_
            rintro e u6 ⟨rfl, rfl⟩
            rw [HPV.out]
            go_wp2_with fail
            go_roundg g2
            case measure => omega
            case rel => exact ⟨u + 1, by omega, by go_num, AN, HT3⟩
        · have hlui : ¬ (u : Int) < (s1 : Int) := by omega
          have AN := Lib.hid (show ∀ s', s' < s + 1 → ∀ u, u ≤ s' → atC zs p inc (s' + u) ≤ plI (atC zs p inc s') (atC zs p inc u) from fun s' h1 u' h2 => by
            by_cases e : s' = s
            · subst e; exact AU.out u' (by omega)
            · exact AL.out s' (by omega) u' h2)
          go_wp2_with fail
          go_roundg g
          case measure => omega
          case rel => exact ⟨s + 1, by omega, by go_num, AN, HT⟩
    · obtain rfl : s = n := by omega
      have hlti : ¬ (s : Int) < (s : Int) := by omega
      have hbt : b = true := HBB.out.2 fun s' h1 u h2 => AL.out s' (by omega) u h2
      subst hbt
      go_wp2_with fail
      go_ret
      exact ⟨rfl, HS.out.below⟩

end Go.Proofs.Ytjjaaknjdmijbaa
