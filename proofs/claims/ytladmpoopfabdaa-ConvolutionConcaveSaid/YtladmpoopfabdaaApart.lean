/- What a call leaves of the world: words and small laws that all contracts use. By the verifier's side. -/
import Derived.Test.YtladmpoopfabdaaBase
import Derived.LoopTactic
import Derived.BigRegion
import Derived.Laws.ResultCell
namespace Go.Proofs.Ytladmpoopfabdaa
open Go.RowKit
set_option linter.unusedSimpArgs false

theorem _root_.Go.RowKit.Below.drewN {B : Nat} {a w : World} (h : Below B a w) (n : Nat) : Below B a (w.drewN n) := ⟨h.os, h.tape, h.output, h.size, h.block⟩

/-- A value is handed back; some orders have been drawn. -/
def Drew (v : Value) (w : World) (e : Ending) (w' : World) : Prop := e = .returned v ∧ ∃ n, w' = w.drewN n

/-- A value is handed back, and nothing that was there has turned. -/
def Says (v : Value) (w : World) (e : Ending) (w' : World) : Prop := e = .returned v ∧ Below w.heap.size w w'

theorem lt3 {a b : Nat} (h : a < b) : a < b + 1 ∧ ¬ a = b ∧ a < b := ⟨by omega, by omega, h⟩

theorem bcell {W w1 : World} (hb : Below W.heap.size W w1) : (∀ b o, b < W.heap.size → w1.cell? ⟨b, o, none⟩ = W.cell? ⟨b, o, none⟩) ∧ (∀ b o, b < W.heap.size → w1.frozen? ⟨b, o, none⟩ = W.frozen? ⟨b, o, none⟩) :=
  ⟨fun b o h => hb.cell (p := ⟨b, o, none⟩) h, fun b o h => hb.frozen (p := ⟨b, o, none⟩) h⟩

/-- Every elder block but b is as it was. -/
structure Apart (b : Nat) (w w' : World) : Prop where
  os : w'.os = w.os
  tape : w'.tape = w.tape
  output : w'.output = w.output
  size : w.heap.size ≤ w'.heap.size
  block : ∀ k, k < w.heap.size → k ≠ b → w'.heap[k]? = w.heap[k]?

theorem Apart.refl (b : Nat) (w : World) : Apart b w w := ⟨rfl, rfl, rfl, Nat.le_refl _, fun _ _ _ => rfl⟩
theorem Apart.trans {b : Nat} {u v w : World} (h : Apart b u v) (k : Apart b v w) : Apart b u w :=
  ⟨k.os.trans h.os, k.tape.trans h.tape, k.output.trans h.output, Nat.le_trans h.size k.size, fun i hi hb => (k.block i (Nat.lt_of_lt_of_le hi h.size) hb).trans (h.block i hi hb)⟩
theorem Else.apart {b : Nat} {w w' : World} (h : Else b w w') : Apart b w w' := ⟨h.os, h.tape, h.output, Nat.le_of_eq h.size.symm, fun k _ hb => h.block k hb⟩
theorem below_apart {b : Nat} {w w' : World} (h : Below w.heap.size w w') : Apart b w w' := ⟨h.os, h.tape, h.output, h.size, fun k hk _ => h.block k hk⟩
theorem Apart.below {b B : Nat} {w w' : World} (h : Apart b w w') (h1 : B ≤ b) (h2 : B ≤ w.heap.size) : Below B w w' :=
  ⟨h.os, h.tape, h.output, h.size, fun k hk => h.block k (by omega) (by omega)⟩
theorem Apart.drewN {b : Nat} {u v : World} (h : Apart b u v) (n : Nat) : Apart b u (v.drewN n) := ⟨h.os, h.tape, h.output, h.size, h.block⟩
theorem Apart.alloc {b : Nat} {u v : World} (h : Apart b u v) (o : Obj) : Apart b u (v.alloc o) :=
  h.trans (below_apart ((Below.refl _ _).alloc (Nat.le_refl _) _))
theorem Apart.setNew {b : Nat} {u v : World} (h : Apart b u v) {p : Addr} (hp : u.heap.size ≤ p.block) (x : Value) : Apart b u (v.setCell p x) :=
  ⟨h.os, h.tape, h.output, by have := h.size; simpa [World.setCell] using this, fun k hk hb => (Below.heap_setCell _ _ _ _ (by omega)).trans (h.block k hk hb)⟩
theorem acell {b : Nat} {w w' : World} (h : Apart b w w') : (∀ x o, x < w.heap.size → x ≠ b → w'.cell? ⟨x, o, none⟩ = w.cell? ⟨x, o, none⟩) ∧ (∀ x o, x < w.heap.size → x ≠ b → w'.frozen? ⟨x, o, none⟩ = w.frozen? ⟨x, o, none⟩) :=
  ⟨fun x _ h1 h2 => World.cell?_of_block (w := w) (h.block x h1 h2), fun x _ h1 h2 => World.frozen?_of_block (w := w) (h.block x h1 h2)⟩

theorem SrcAt.lt {w : World} {b : Nat} {a : Option Addr} {n cap : Nat} (h : SrcAt w b a n cap) : b < w.heap.size := by
  obtain ⟨k, _, hb⟩ := h.src
  rcases Nat.lt_or_ge b w.heap.size with h' | h'
  · exact h'
  · simp [Array.getElem?_eq_none h'] at hb

/-- What does not touch the elder blocks leaves a reader as it is. -/
theorem SrcAt.under {w w' : World} {b : Nat} {a : Option Addr} {n cap : Nat} (h : SrcAt w b a n cap) (hb : Below w.heap.size w w') : SrcAt w' b a n cap := by
  obtain ⟨k, hk, hs⟩ := h.src
  refine ⟨⟨k, hk, (hb.block b h.lt).trans hs⟩, h.few, fun i hi => ?_⟩
  obtain ⟨x, z, h1, h2, h3, h4⟩ := h.row i hi
  exact ⟨x, z, h1, h2, (hb.cell (lt_of_cell h3)).trans h3, h4⟩

theorem SrcAt.mk2 {w w' : World} {b : Nat} {a : Option Addr} {n cap : Nat} (h : SrcAt w b a n cap) (ha : Apart b w w')
    (hs : ∃ k : Nat, k ≤ n ∧ w'.heap[b]? = some (.cells #[.slice a n cap, .int .i64 k] 63 (0, 0))) : SrcAt w' b a n cap := by
  refine ⟨hs, h.few, fun i hi => ?_⟩
  obtain ⟨x, z, h1, h2, h3, h4⟩ := h.row i hi
  have hl := lt_of_cell h3
  rw [add_block] at hl
  exact ⟨x, z, h1, h2, (World.cell?_of_block (w := w) (ha.block _ (by rw [add_block]; exact hl) (by rw [add_block]; exact h2))).trans h3, h4⟩

end Go.Proofs.Ytladmpoopfabdaa
