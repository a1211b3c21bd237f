/- The document's Raise. By the verifier's side. -/
import Derived.Test.YtjjaaknjdmijbaaQeR5D
import Derived.Test.YtjjaaknjdmijbaaQeLong
namespace Go.Proofs.Ytjjaaknjdmijbaa
open Go.RowKit
set_option linter.unusedSimpArgs false
set_option linter.unusedVariables false

/-- A list that grows value by value in the block g, in the box B; both are younger than W. -/
structure Aq (W : World) (B : Nat) (p inc : Int) (f : Nat → Int) (k g cap : Nat) (u : World) : Prop where
  below : Below W.heap.size W u
  out : Cur3 u B (.slice (some ⟨g, 0, none⟩) k cap) (.int .i64 p) (.int .i64 inc)
  own : u.ownsRow W.heap.size 3 1 (.slice (some ⟨g, 0, none⟩) k cap) k ((firsts f k).map (Value.int .i64))
  hB : W.heap.size ≤ B
  ne : ¬ g = B
theorem owns_below {w w' : World} {base : Nat} {v : Value} {k : Nat} {xs : List Value} (h : w.ownsRow base 3 1 v k xs) (ha : Below w.heap.size w w') : w'.ownsRow base 3 1 v k xs := by
  obtain ⟨hl, hr⟩ := h
  refine ⟨hl, ?_⟩
  rcases hr with h0 | ⟨g, cap, cur, hv, hbase, hg, h1, h2, h3, h4⟩
  · exact .inl h0
  · refine .inr ⟨g, cap, cur, hv, hbase, ?_, h1, h2, h3, h4⟩
    have hlt : g < w.heap.size := by
      rcases Nat.lt_or_ge g w.heap.size with h' | h'
      · exact h'
      · rw [Array.getElem?_eq_none h'] at hg; cases hg
    exact (ha.block g hlt).trans hg
theorem Aq.under {W : World} {B : Nat} {p inc : Int} {f : Nat → Int} {k g cap : Nat} {u v : World} (h : Aq W B p inc f k g cap u) (hb : Below u.heap.size u v) : Aq W B p inc f k g cap v :=
  ⟨h.below.trans (hb.mono h.below.size), h.out.below hb, owns_below h.own hb, h.hB, h.ne⟩
theorem Aq.alloc {W : World} {B : Nat} {p inc : Int} {f : Nat → Int} {k g cap : Nat} {u : World} (h : Aq W B p inc f k g cap u) (o : Obj) : Aq W B p inc f k g cap (u.alloc o) := h.under ((Below.refl _ _).alloc (Nat.le_refl _) o)
theorem Aq.drew {W : World} {B : Nat} {p inc : Int} {f : Nat → Int} {k g cap : Nat} {u : World} (h : Aq W B p inc f k g cap u) : Aq W B p inc f k g cap u.drew := h.under (Below.refl _ _).drew
theorem Aq.row {W : World} {B : Nat} {p inc : Int} {f : Nat → Int} {k g cap : Nat} {u : World} (h : Aq W B p inc f k g cap u) (hk : k ≤ 100000) (hb : ∀ t, t < k → In64 (f t)) : RowZ u (some ⟨g, 0, none⟩) k cap (firsts f k) := by
  obtain ⟨a9, c9, hv9, R9, _⟩ := rowZ_of_owns h.own (by omega) (fun i hi => by rw [firsts_length] at hi; rw [firsts_getD _ _ _ hi]; exact hb i hi)
  cases hv9
  exact R9
end Go.Proofs.Ytjjaaknjdmijbaa
