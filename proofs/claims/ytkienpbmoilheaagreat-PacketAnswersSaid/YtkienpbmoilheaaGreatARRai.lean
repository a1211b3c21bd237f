/- The document's Raise. By the verifier's side. -/
import Derived.Test.YtkienpbmoilheaaGreatAR5D
import Derived.Test.YtkienpbmoilheaaGreatACurSLongKeepC
namespace Go.Proofs.YtkienpbmoilheaaGreat
open Go.RowKit
set_option linter.unusedSimpArgs false
set_option linter.unusedVariables false

/-- A list that grows value by value in the block g, in the box B; both are younger than W. -/
structure Aq (W : World) (B : Nat) (p inc : Int) (f : Nat → Int) (k g cap : Nat) (u : World) : Prop where
  below : Below W.heap.size W u
  out : Cur3 u B (.slice (some ⟨g, 0, none⟩) k cap) (.int .i64 p) (.int .i64 inc)
  own : u.ownsRow W.heap.size 3 1 (.slice (some ⟨g, 0, none⟩) k cap) k ((firsts f k).map (Value.int .i64))
  hB : W.heap.size ≤ B
  ne : ¬ g = B
theorem owns_below {w w' : World} {base : Nat} {v : Value} {k : Nat} {xs : List Value} (h : w.ownsRow base 3 1 v k xs) (ha : Below w.heap.size w w') : w'.ownsRow base 3 1 v k xs := by
  obtain ⟨hl, hr⟩ := h
  refine ⟨hl, ?_⟩
  rcases hr with h0 | ⟨g, cap, cur, hv, hbase, hg, h1, h2, h3, h4⟩
  · exact .inl h0
  · refine .inr ⟨g, cap, cur, hv, hbase, ?_, h1, h2, h3, h4⟩
    have hlt : g < w.heap.size := by
      rcases Nat.lt_or_ge g w.heap.size with h' | h'
      · exact h'
      · rw [Array.getElem?_eq_none h'] at hg; cases hg
    exact (ha.block g hlt).trans hg
theorem Aq.under {W : World} {B : Nat} {p inc : Int} {f : Nat → Int} {k g cap : Nat} {u v : World} (h : Aq W B p inc f k g cap u) (hb : Below u.heap.size u v) : Aq W B p inc f k g cap v :=
  ⟨h.below.trans (hb.mono h.below.size), h.out.below hb, owns_below h.own hb, h.hB, h.ne⟩
theorem Aq.alloc {W : World} {B : Nat} {p inc : Int} {f : Nat → Int} {k g cap : Nat} {u : World} (h : Aq W B p inc f k g cap u) (o : Obj) : Aq W B p inc f k g cap (u.alloc o) := h.under ((Below.refl _ _).alloc (Nat.le_refl _) o)
theorem Aq.drew {W : World} {B : Nat} {p inc : Int} {f : Nat → Int} {k g cap : Nat} {u : World} (h : Aq W B p inc f k g cap u) : Aq W B p inc f k g cap u.drew := h.under (Below.refl _ _).drew
theorem Aq.push {W : World} {B : Nat} {p inc : Int} {f : Nat → Int} {k g cap g' cap' : Nat} {u v : World} (h : Aq W B p inc f k g cap u) {z : Int} (hown : v.ownsRow W.heap.size 3 1 (.slice (some ⟨g', 0, none⟩) (k + 1) cap') (k + 1) ((firsts f k).map (Value.int .i64) ++ [Value.int .i64 z])) (hg : u.grownBy v (Value.slice (some ⟨g, 0, none⟩) k cap).ownBlock) (hat : g' = g ∨ g' = u.heap.size) (hz : f k = z) :
    Aq W B p inc f (k + 1) g' cap' (v.setCell ⟨B, 0, none⟩ (.slice (some ⟨g', 0, none⟩) (k + 1) cap')) ∧ Cur3 v B (.slice (some ⟨g, 0, none⟩) k cap) (.int .i64 p) (.int .i64 inc) := by
  have hc : Cur3 v B (.slice (some ⟨g, 0, none⟩) k cap) (.int .i64 p) (.int .i64 inc) := h.out.grownS hg h.ne
  have hne : ¬ g' = B := by
    rcases hat with rfl | rfl
    · exact h.ne
    · have := h.out.lt; omega
  have hlow := (h.own.lt g rfl).1
  refine ⟨⟨((h.below.grown hg h.below.size (fun j hj => by cases hj; exact hlow)).setCell (p := ⟨B, 0, none⟩) h.hB _), hc.set0 _, ?_, h.hB, hne⟩, hc⟩
  rw [firsts_succ, List.map_append, hz]
  exact owns_ne hown (p := ⟨B, 0, none⟩) hne _
theorem Aq.row {W : World} {B : Nat} {p inc : Int} {f : Nat → Int} {k g cap : Nat} {u : World} (h : Aq W B p inc f k g cap u) (hk : k ≤ 100000) (hb : ∀ t, t < k → In64 (f t)) : RowZ u (some ⟨g, 0, none⟩) k cap (firsts f k) := by
  obtain ⟨a9, c9, hv9, R9, _⟩ := rowZ_of_owns h.own (by omega) (fun i hi => by rw [firsts_length] at hi; rw [firsts_getD _ _ _ hi]; exact hb i hi)
  cases hv9
  exact R9
/-- The beginning: a list of one value that lies in a literal. -/
theorem Aq.start1 (W : World) (p inc : Int) (f : Nat → Int) {z : Int} (hz : f 0 = z) : Aq W (W.heap.size + 1) p inc f 1 W.heap.size 1 ((W.alloc (.cells #[.int .i64 z] 3)).alloc (.cells #[.slice (some ⟨W.heap.size, 0, none⟩) 1 1, .int .i64 p, .int .i64 inc] 24)) := by
  refine ⟨((Below.refl _ _).alloc (Nat.le_refl _) _).alloc (by simp) _, Cur3.new2 W _ _ _ _ _, ?_, Nat.le_succ _, by omega⟩
  refine owns_below (w := W.alloc (.cells #[.int .i64 z] 3)) ?_ (below_box _)
  refine ⟨by simp [firsts], .inr ⟨W.heap.size, 1, #[.int .i64 z], rfl, Nat.le_refl _, heap_alloc_new W _, Nat.le_refl _, by unfold maxLen; omega, rfl, ?_⟩⟩
  show [Value.int .i64 z] = (firsts f 1).map (Value.int .i64)
  rw [show firsts f 1 = [f 0] from rfl, hz]; rfl

end Go.Proofs.YtkienpbmoilheaaGreat
