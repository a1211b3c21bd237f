/- A list in a block; what a store leaves of closures. By the verifier's side. -/
import Derived.Test.YtkienpbmoilheaaGreatAPwEKeepTPwFPwG
import Derived.Test.YtkienpbmoilheaaGreatAPwSPwU
import Derived.Test.YtkienpbmoilheaaGreatABaseApartPickKeepS
namespace Go.Proofs.YtkienpbmoilheaaGreat
open Go.RowKit
set_option linter.unusedSimpArgs false
set_option linter.unusedVariables false

/-! ## A list in a block -/

/-- The first m cells of the block are F's values. -/
structure RowF (u : World) (lb m : Nat) (F : Nat → Int) : Prop where
  lt : lb < u.heap.size
  cell : ∀ i, i < m → u.cell? ⟨lb, i, none⟩ = some (.int .i64 (F i)) ∧ u.frozen? ⟨lb, i, none⟩ = false
theorem RowF.under {u v : World} {lb m : Nat} {F : Nat → Int} (h : RowF u lb m F) (hb : Below u.heap.size u v) : RowF v lb m F :=
  ⟨Nat.lt_of_lt_of_le h.lt hb.size, fun i hi => ⟨(hb.cell (p := ⟨lb, i, none⟩) h.lt).trans (h.cell i hi).1, (hb.frozen (p := ⟨lb, i, none⟩) h.lt).trans (h.cell i hi).2⟩⟩
theorem RowF.set {u : World} {lb m : Nat} {F : Nat → Int} (h : RowF u lb m F) {k : Nat} (hk : k < m) (v : Int) : RowF (u.setCell ⟨lb, k, none⟩ (.int .i64 v)) lb m (fun i => if i = k then v else F i) := by
  refine ⟨by simpa [World.setCell] using h.lt, fun i hi => ?_⟩
  obtain ⟨h1, h2⟩ := h.cell i hi
  obtain ⟨k1, k2⟩ := h.cell k hk
  by_cases e : i = k
  · subst e
    rw [if_pos rfl]
    exact ⟨by go_simp, by go_simp⟩
  · rw [if_neg e]
    exact ⟨(by have h3 := h1; go_simp; try exact h3), by go_simp⟩
theorem RowF.congr {u : World} {lb m : Nat} {F G : Nat → Int} (h : RowF u lb m F) (he : ∀ i, i < m → F i = G i) : RowF u lb m G := ⟨h.lt, fun i hi => by rw [← he i hi]; exact h.cell i hi⟩
theorem RowF.made (w : World) (m : Nat) : RowF (w.alloc (.cells (madeCells #[.int .i64 0] m) 3)) w.heap.size m (fun _ => 0) :=
  ⟨by simp, fun i hi => ⟨made_cell w m i hi, made_frozen w m i⟩⟩
theorem RowF.other {u : World} {lb m : Nat} {F : Nat → Int} (h : RowF u lb m F) {b : Nat} (hb : lb ≠ b) (i : Nat) (v : Value) : RowF (u.setCell ⟨b, i, none⟩ v) lb m F :=
  ⟨by simpa [World.setCell] using h.lt, fun j hj => by
    obtain ⟨h1, h2⟩ := h.cell j hj
    exact ⟨(World.cell?_of_block (w := u) (a := ⟨lb, j, none⟩) (Below.heap_setCell _ _ _ _ hb)).trans h1, (World.frozen?_of_block (w := u) (a := ⟨lb, j, none⟩) (Below.heap_setCell _ _ _ _ hb)).trans h2⟩⟩

theorem ClosP.other {w : World} {B : Nat} {a : Option Addr} {n cap : Nat} {zs : List Int} {p : Nat} {inc : Int} (h : ClosP w B a n cap zs p inc) {b : Nat} (hf : Far B a n b) (i : Nat) (v : Value) : ClosP (w.setCell ⟨b, i, none⟩ v) B a n cap zs p inc := by
  have hb : ∀ q o, ¬ q = b → (w.setCell ⟨b, i, none⟩ v).cell? ⟨q, o, none⟩ = w.cell? ⟨q, o, none⟩ := fun q o hq => World.cell?_of_block (w := w) (a := ⟨q, o, none⟩) (Below.heap_setCell _ _ _ _ hq)
  exact ⟨(hb _ _ hf.h1).trans h.f0, (hb _ _ hf.h1).trans h.f1, (hb _ _ hf.h1).trans h.f2, (hb _ _ hf.h2).trans h.num, h.row.store (fun x hx hn => hf.h3 x hx hn) _ _, h.good⟩

theorem GivesBad.alloc {c : Int} {w v : World} {e : Ending} (h : GivesBad c w e v) (o : Obj) : GivesBad c w e (v.alloc o) := ⟨h.1, h.2.alloc h.2.size o⟩

/-! ## One difference -/


end Go.Proofs.YtkienpbmoilheaaGreat
