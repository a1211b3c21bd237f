/- What BucketKeeps calls besides: sums of sizes in a row; lists of numbers that are drawn. By the verifier's side. -/
import Derived.Test.YtombgfpheiopgaaEBkG
import Derived.Test.YtombgfpheiopgaaEBkS
namespace Go.Proofs.Ytombgfpheiopgaa
open Go.RowKit
set_option linter.unusedSimpArgs false
set_option linter.unusedVariables false

/-! ## Lists that are drawn -/

/-- A block of n numbers, each with the property. -/
structure Lst (P : Int → Prop) (g n : Nat) (u : World) : Prop where
  cell : ∀ i, i < n → ∃ z, u.cell? ⟨g, i, none⟩ = some (.int .i64 z) ∧ P z
  free : ∀ i, i < n → u.frozen? ⟨g, i, none⟩ = false
theorem Lst.apart {P : Int → Prop} {g n b : Nat} {u v : World} (h : Lst P g n u) (ha : Apart b u v) (hg : g ≠ b) : Lst P g n v := by
  obtain ⟨h1, h2⟩ := acell ha
  refine ⟨fun i hi => ?_, fun i hi => ?_⟩
  · obtain ⟨z, hc, hp⟩ := h.cell i hi
    exact ⟨z, (h1 g i (lt_of_cell hc) hg).trans hc, hp⟩
  · obtain ⟨z, hc, hp⟩ := h.cell i hi
    exact (h2 g i (lt_of_cell hc) hg).trans (h.free i hi)
theorem Lst.under {P : Int → Prop} {g n : Nat} {u v : World} (h : Lst P g n u) (hb : Below u.heap.size u v) : Lst P g n v := by
  obtain ⟨h1, h2⟩ := bcell hb
  refine ⟨fun i hi => ?_, fun i hi => ?_⟩
  · obtain ⟨z, hc, hp⟩ := h.cell i hi
    exact ⟨z, (h1 g i (lt_of_cell hc)).trans hc, hp⟩
  · obtain ⟨z, hc, hp⟩ := h.cell i hi
    exact (h2 g i (lt_of_cell hc)).trans (h.free i hi)
theorem Lst.set {P : Int → Prop} {g n k : Nat} {u : World} (h : Lst P g n u) (hk : k < n) {z : Int} (hz : P z) : Lst P g n (u.setCell ⟨g, k, none⟩ (.int .i64 z)) := by
  refine ⟨fun i hi => ?_, fun i hi => (World.frozen?_setCell _ _ _ _).trans (h.free i hi)⟩
  by_cases e : i = k
  · subst e
    obtain ⟨y, hc, hp⟩ := h.cell i hi
    exact ⟨z, World.cell?_setCell_same _ _ _ hc, hz⟩
  · obtain ⟨y, hc, hp⟩ := h.cell i hi
    exact ⟨y, (World.cell?_setCell_other _ _ _ _ (fun he => e (by cases he; rfl))).trans hc, hp⟩
theorem Lst.make {P : Int → Prop} (w : World) (n : Nat) (h0 : P 0) : Lst P w.heap.size n (w.alloc (.cells (madeCells #[.int .i64 0] n) 3)) :=
  ⟨fun i hi => ⟨0, made_cell w n i hi, h0⟩, fun i hi => made_frozen w n i⟩
theorem Lst.list {P : Int → Prop} {g : Nat} {u : World} : ∀ {n : Nat}, Lst P g n u → ∃ xs : List Int, xs.length = n ∧ ∀ i, i < n → u.cell? ⟨g, i, none⟩ = some (.int .i64 (xs.getD i 0)) ∧ P (xs.getD i 0)
  | 0, _ => ⟨[], rfl, fun i hi => absurd hi (Nat.not_lt_zero _)⟩
  | n + 1, h => by
    obtain ⟨xs, hl, hx⟩ := Lst.list (n := n) (u := u) ⟨fun i hi => h.cell i (by omega), fun i hi => h.free i (by omega)⟩
    obtain ⟨z, hc, hp⟩ := h.cell n (by omega)
    refine ⟨xs ++ [z], by simp [hl], fun i hi => ?_⟩
    by_cases e : i = n
    · subst e
      have : (xs ++ [z]).getD i 0 = z := by simp [List.getD, ← hl]
      rw [this]; exact ⟨hc, hp⟩
    · have : (xs ++ [z]).getD i 0 = xs.getD i 0 := by simp [List.getD, List.getElem?_append_left (show i < xs.length by omega)]
      rw [this]; exact hx i (by omega)
theorem Lst.row {P : Int → Prop} {g n : Nat} {u : World} (h : Lst P g n u) (hn : n ≤ 100000) (hP : ∀ z, P z → In64 z) : ∃ xs : List Int, xs.length = n ∧ (∀ i, i < n → P (xs.getD i 0)) ∧ RowZ u (some ⟨g, 0, none⟩) n n xs := by
  obtain ⟨xs, hl, hx⟩ := h.list
  refine ⟨xs, hl, fun i hi => (hx i hi).2, ⟨hl, Nat.le_refl _, by omega, by omega, fun i hi => ⟨_, rfl, ?_⟩, fun i hi => hP _ (hx i hi).2⟩⟩
  have ea : ((⟨g, 0, none⟩ : Addr).add i) = ⟨g, i, none⟩ := by unfold Addr.add; split <;> simp_all
  rw [ea]; exact (hx i hi).1

theorem Bk4.apart {w w' : World} {b p : Nat} {bn bd rn rd : Int} (h : Bk4 w p bn bd rn rd) (ha : Apart b w w') (hp : p ≠ b) : Bk4 w' p bn bd rn rd := by
  obtain ⟨h1, _⟩ := acell ha
  have l := h.lt
  exact ⟨(h1 p 0 l hp).trans h.c0, (h1 p 1 l hp).trans h.c1, (h1 p 2 l hp).trans h.c2, (h1 p 3 l hp).trans h.c3⟩
end Go.Proofs.Ytombgfpheiopgaa
