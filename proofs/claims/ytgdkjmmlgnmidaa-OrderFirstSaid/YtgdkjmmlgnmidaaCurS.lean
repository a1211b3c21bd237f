/- Contract of curve.steady, for whatever closure with one variable. By the verifier's side. -/
import Derived.Test.YtgdkjmmlgnmidaaCurF
import Derived.Test.YtgdkjmmlgnmidaaCurN
import Derived.Deep.RegionWith
import Derived.Shelf.Abstract
import Derived.Deep.RegionHeld3
import Derived.Deep.OwnRows
import Derived.Deep.DeepCutAuto
namespace Go.Proofs.Ytgdkjmmlgnmidaa
open Go.RowKit
set_option linter.unusedSimpArgs false

theorem make_row (s : Nat) (hs : s ≤ 1000) (w : World) : (Instr.makeSlice 22 (.int .i64 ((s : Int) + 1)) (.int .i64 ((s : Int) + 1))).run Try.prog w = .ok (.slice (some ⟨w.heap.size, 0, none⟩) (s + 1) (s + 1)) (w.alloc (.cells (madeCells #[.int .i64 0] (s + 1)) 3)) := by
  have := run_make_row' (P := Try.prog) 22 3 (.int .i64 0) 8 Try.underlying22 info_int rfl .i64 .i64 (s + 1) (by omega) (by omega) w
  simpa using this

theorem made_cell (w : World) (m i : Nat) (hi : i < m) : (w.alloc (.cells (madeCells #[.int .i64 0] m) 3)).cell? ⟨w.heap.size, i, none⟩ = some (.int .i64 0) := by
  rw [World.cell?_alloc_new]
  simp [madeCells, hi, Nat.mod_one]
theorem made_frozen (w : World) (m i : Nat) : (w.alloc (.cells (madeCells #[.int .i64 0] m) 3)).frozen? ⟨w.heap.size, i, none⟩ = false := World.frozen?_alloc_at _ _ _ _ rfl

theorem Cur3.drew {w : World} {b : Nat} {x0 x1 x2 : Value} (h : Cur3 w b x0 x1 x2) : Cur3 w.drew b x0 x1 x2 := ⟨h.c0, h.c1, h.c2, h.f0, h.f1, h.f2⟩

theorem cutA (w : World) (s : Nat) (d : Int) :
    Hid (Cur3 (((w.alloc (.cells #[.slice none 0 0, .int .i64 0, .int .i64 0] 24)).alloc (.cells (madeCells #[.int .i64 0] (s + 1)) 3)).alloc (.cells #[.slice (some ⟨w.heap.size + 1, 0, none⟩) (s + 1) (s + 1), .int .i64 1, .int .i64 d] 24)).drew (w.heap.size + 1 + 1) (.slice (some ⟨w.heap.size + 1, 0, none⟩) (s + 1) (s + 1)) (.int .i64 1) (.int .i64 d)) ∧
    Hid (Cur3 (((w.alloc (.cells #[.slice none 0 0, .int .i64 0, .int .i64 0] 24)).alloc (.cells (madeCells #[.int .i64 0] (s + 1)) 3)).alloc (.cells #[.slice (some ⟨w.heap.size + 1, 0, none⟩) (s + 1) (s + 1), .int .i64 1, .int .i64 d] 24)).drew w.heap.size (.slice none 0 0) (.int .i64 0) (.int .i64 0)) ∧
    Hid (∀ i, i < s + 1 → (((w.alloc (.cells #[.slice none 0 0, .int .i64 0, .int .i64 0] 24)).alloc (.cells (madeCells #[.int .i64 0] (s + 1)) 3)).alloc (.cells #[.slice (some ⟨w.heap.size + 1, 0, none⟩) (s + 1) (s + 1), .int .i64 1, .int .i64 d] 24)).drew.cell? ⟨w.heap.size + 1, i, none⟩ = some (.int .i64 0) ∧
      (((w.alloc (.cells #[.slice none 0 0, .int .i64 0, .int .i64 0] 24)).alloc (.cells (madeCells #[.int .i64 0] (s + 1)) 3)).alloc (.cells #[.slice (some ⟨w.heap.size + 1, 0, none⟩) (s + 1) (s + 1), .int .i64 1, .int .i64 d] 24)).drew.frozen? ⟨w.heap.size + 1, i, none⟩ = false) ∧
    Hid (Below w.heap.size w (((w.alloc (.cells #[.slice none 0 0, .int .i64 0, .int .i64 0] 24)).alloc (.cells (madeCells #[.int .i64 0] (s + 1)) 3)).alloc (.cells #[.slice (some ⟨w.heap.size + 1, 0, none⟩) (s + 1) (s + 1), .int .i64 1, .int .i64 d] 24)).drew) := by
  generalize hu : w.alloc (.cells #[.slice none 0 0, .int .i64 0, .int .i64 0] 24) = u
  have hus : u.heap.size = w.heap.size + 1 := by rw [← hu]; simp
  have hB : Below w.heap.size w u := by rw [← hu]; exact (Below.refl _ _).alloc (Nat.le_refl _) _
  have hC : Cur3 u w.heap.size (.slice none 0 0) (.int .i64 0) (.int .i64 0) := by rw [← hu]; exact Cur3.new _ _ _ _ _
  refine ⟨Cur3.drew ?_, Cur3.drew ((hC.alloc _).alloc _), fun i hi => ⟨?_, ?_⟩, ((hB.alloc (by omega) _).alloc (by simp; omega) _).drew⟩
  · have := Cur3.new (u.alloc (.cells (madeCells #[.int .i64 0] (s + 1)) 3)) (.slice (some ⟨w.heap.size + 1, 0, none⟩) (s + 1) (s + 1)) (.int .i64 1) (.int .i64 d) 24
    rwa [show (u.alloc (.cells (madeCells #[.int .i64 0] (s + 1)) 3)).heap.size = w.heap.size + 1 + 1 by simp [hus]] at this
  · have h1 := made_cell u (s + 1) i hi
    rw [hus] at h1
    exact (((Below.refl _ _).alloc (Nat.le_refl _) _).cell (lt_of_cell h1)).trans h1
  · have h0 := made_cell u (s + 1) i hi
    have h1 := made_frozen u (s + 1) i
    rw [hus] at h0 h1
    exact (((Below.refl _ _).alloc (Nat.le_refl _) _).frozen (lt_of_cell h0)).trans h1

theorem cutB (w : World) (s : Nat) (d : Int) :
    Hid (Cur3 (((w.alloc (.cells #[.slice none 0 0, .int .i64 0, .int .i64 0] 24)).alloc (.cells #[.slice (some ⟨w.heap.size + 1 + 1, 0, none⟩) (s + 1) (s + 1), .int .i64 1, .int .i64 d] 24)).alloc (.cells (madeCells #[.int .i64 0] (s + 1)) 3)).drew (w.heap.size + 1) (.slice (some ⟨w.heap.size + 1 + 1, 0, none⟩) (s + 1) (s + 1)) (.int .i64 1) (.int .i64 d)) ∧
    Hid (Cur3 (((w.alloc (.cells #[.slice none 0 0, .int .i64 0, .int .i64 0] 24)).alloc (.cells #[.slice (some ⟨w.heap.size + 1 + 1, 0, none⟩) (s + 1) (s + 1), .int .i64 1, .int .i64 d] 24)).alloc (.cells (madeCells #[.int .i64 0] (s + 1)) 3)).drew w.heap.size (.slice none 0 0) (.int .i64 0) (.int .i64 0)) ∧
    Hid (∀ i, i < s + 1 → (((w.alloc (.cells #[.slice none 0 0, .int .i64 0, .int .i64 0] 24)).alloc (.cells #[.slice (some ⟨w.heap.size + 1 + 1, 0, none⟩) (s + 1) (s + 1), .int .i64 1, .int .i64 d] 24)).alloc (.cells (madeCells #[.int .i64 0] (s + 1)) 3)).drew.cell? ⟨w.heap.size + 1 + 1, i, none⟩ = some (.int .i64 0) ∧
      (((w.alloc (.cells #[.slice none 0 0, .int .i64 0, .int .i64 0] 24)).alloc (.cells #[.slice (some ⟨w.heap.size + 1 + 1, 0, none⟩) (s + 1) (s + 1), .int .i64 1, .int .i64 d] 24)).alloc (.cells (madeCells #[.int .i64 0] (s + 1)) 3)).drew.frozen? ⟨w.heap.size + 1 + 1, i, none⟩ = false) ∧
    Hid (Below w.heap.size w (((w.alloc (.cells #[.slice none 0 0, .int .i64 0, .int .i64 0] 24)).alloc (.cells #[.slice (some ⟨w.heap.size + 1 + 1, 0, none⟩) (s + 1) (s + 1), .int .i64 1, .int .i64 d] 24)).alloc (.cells (madeCells #[.int .i64 0] (s + 1)) 3)).drew) := by
  generalize hu : w.alloc (.cells #[.slice none 0 0, .int .i64 0, .int .i64 0] 24) = u
  have hus : u.heap.size = w.heap.size + 1 := by rw [← hu]; simp
  have hB : Below w.heap.size w u := by rw [← hu]; exact (Below.refl _ _).alloc (Nat.le_refl _) _
  have hC : Cur3 u w.heap.size (.slice none 0 0) (.int .i64 0) (.int .i64 0) := by rw [← hu]; exact Cur3.new _ _ _ _ _
  have hD := Cur3.new u (.slice (some ⟨w.heap.size + 1 + 1, 0, none⟩) (s + 1) (s + 1)) (.int .i64 1) (.int .i64 d) 24
  rw [hus] at hD
  have hvs : (u.alloc (.cells #[.slice (some ⟨w.heap.size + 1 + 1, 0, none⟩) (s + 1) (s + 1), .int .i64 1, .int .i64 d] 24)).heap.size = w.heap.size + 1 + 1 := by simp [hus]
  refine ⟨Cur3.drew (hD.alloc _), Cur3.drew ((hC.alloc _).alloc _), fun i hi => ⟨?_, ?_⟩, ((hB.alloc (by omega) _).alloc (by omega) _).drew⟩
  · have h1 := made_cell (u.alloc (.cells #[.slice (some ⟨w.heap.size + 1 + 1, 0, none⟩) (s + 1) (s + 1), .int .i64 1, .int .i64 d] 24)) (s + 1) i hi
    rwa [hvs] at h1
  · have h1 := made_frozen (u.alloc (.cells #[.slice (some ⟨w.heap.size + 1 + 1, 0, none⟩) (s + 1) (s + 1), .int .i64 1, .int .i64 d] 24)) (s + 1) i
    rwa [hvs] at h1

theorem row_step {w : World} {lb m k : Nat} {f : Nat → Int} (h : ∀ i, i < m → w.cell? ⟨lb, i, none⟩ = some (.int .i64 (if i < k then f i else 0)) ∧ w.frozen? ⟨lb, i, none⟩ = false) (hk : k < m) {v : Int} (hv : f k = v) :
    ∀ i, i < m → (w.setCell ⟨lb, k, none⟩ (.int .i64 v)).drew.cell? ⟨lb, i, none⟩ = some (.int .i64 (if i < k + 1 then f i else 0)) ∧ (w.setCell ⟨lb, k, none⟩ (.int .i64 v)).drew.frozen? ⟨lb, i, none⟩ = false := by
  intro i hi
  refine ⟨?_, (World.frozen?_setCell _ _ _ _).trans (h i hi).2⟩
  show (w.setCell ⟨lb, k, none⟩ (.int .i64 v)).cell? ⟨lb, i, none⟩ = _
  by_cases he : i = k
  · subst he
    rw [World.cell?_setCell_same _ _ _ (h i hi).1, if_pos (Nat.lt_succ_self _), hv]
  · rw [World.cell?_setCell_other _ _ _ _ (show _ from fun hx => he (by cases hx; rfl)), (h i hi).1]
    by_cases hlt : i < k
    · rw [if_pos hlt, if_pos (by omega)]
    · rw [if_neg hlt, if_neg (by omega)]

/-- What a closure with one variable hands back at each tick, in every world above w. -/
def Gives1 (fid : FuncId) (rb : Nat) (f : Nat → Int) (w : World) : Prop :=
  ∀ (ti : Int) (t : Nat) (v : Int) (w' : World), ti = t → t ≤ 400 → f t = v → Below w.heap.size w w' → Calls Try.prog fid #[.int .i64 ti, .pointer (some ⟨rb, 0, none⟩)] w' fun e w'' => e = .returned (.int .i64 v) ∧ w' = w''

end Go.Proofs.Ytgdkjmmlgnmidaa
