/- The document's buckets and staircases: good, Token, Steps. By the verifier's side. -/
import Derived.Test.YtombgfpheiopgaaEBkB
import Derived.Test.YtombgfpheiopgaaER5D
import Derived.Test.YtombgfpheiopgaaELong
namespace Go.Proofs.Ytombgfpheiopgaa
open Go.RowKit
set_option linter.unusedSimpArgs false
set_option linter.unusedVariables false

set_option maxHeartbeats 800000 in
theorem rgood_any (n d : Int) (c : Bool) (hc : okB n d = c) (w : World) : Calls Try.prog 169 #[.agg #[.int .i64 n, .int .i64 d]] w (Says (.bool c) w) := by
  cases hv : okF n d with
  | false =>
    obtain rfl : c = false := by rw [← hc]; unfold okB; rw [hv]; rfl
    have HV := Lib.hid hv
    clear hv hc
    go_enter Try.func169, Try.ntmps169
    go_wp2_with fail
    refine (frvalid_any n d _ HV.out _).mono ?_
    rintro e w1 ⟨rfl, hb⟩
    have HBB := Lib.hid (fr_one1 hb)
    clear hb
    go_wp2_with fail
    go_ret
    exact ⟨rfl, HBB.out⟩
  | true =>
    by_cases h0 : 0 ≤ n
    · obtain rfl : c = true := by rw [← hc]; unfold okB; rw [hv, decide_eq_true h0]; rfl
      have t0 : decide (0 ≤ n) = true := decide_eq_true h0
      have HV := Lib.hid hv
      clear hv hc
      go_enter Try.func169, Try.ntmps169
      go_wp2_with fail
      refine (frvalid_any n d _ HV.out _).mono ?_
      rintro e w1 ⟨rfl, hb⟩
      have HBB := Lib.hid (fr_one1 hb)
      obtain ⟨hc1, hf1⟩ := bcell hb
      clear hb
      go_wp2_with fail
      go_ret
      exact ⟨rfl, HBB.out⟩
    · obtain rfl : c = false := by rw [← hc]; unfold okB; rw [hv, decide_eq_false h0]; rfl
      have t0 : decide (0 ≤ n) = false := decide_eq_false h0
      have HV := Lib.hid hv
      clear hv hc
      go_enter Try.func169, Try.ntmps169
      go_wp2_with fail
      refine (frvalid_any n d _ HV.out _).mono ?_
      rintro e w1 ⟨rfl, hb⟩
      have HBB := Lib.hid (fr_one1 hb)
      obtain ⟨hc1, hf1⟩ := bcell hb
      clear hb
      go_wp2_with fail
      go_ret
      exact ⟨rfl, HBB.out⟩

/-- A curve that is being made of its first value 0 and others behind it: its box behind W's first new block, its row at g. -/
structure Bq1 (W : World) (p inc : Int) (f : Nat → Int) (k g cap : Nat) (u : World) : Prop where
  below : Below W.heap.size W u
  out : Cur3 u (W.heap.size + 1) (.slice (some ⟨g, 0, none⟩) k cap) (.int .i64 p) (.int .i64 inc)
  own : u.ownsRow W.heap.size 3 1 (.slice (some ⟨g, 0, none⟩) k cap) k ((firsts f k).map (Value.int .i64))
  ne : ¬ g = W.heap.size + 1
  one : 1 ≤ W.heap.size
theorem aq_own (w : World) : (w.alloc (.cells #[.int .i64 0] 3)).ownsRow w.heap.size 3 1 (.slice (some ⟨w.heap.size, 0, none⟩) 1 1) 1 [.int .i64 0] := by
  exact ⟨by simp, .inr ⟨w.heap.size, 1, #[.int .i64 0], rfl, Nat.le_refl _, heap_alloc_new w _, Nat.le_refl _, by unfold maxLen; omega, rfl, by simp⟩⟩
section
variable {W u v : World} {p inc : Int} {f : Nat → Int} {k g cap : Nat}
theorem Bq1.start (h : 1 ≤ W.heap.size) (h0 : f 0 = 0) : Bq1 W p inc f 1 W.heap.size 1 ((W.alloc (.cells #[.int .i64 0] 3)).alloc (.cells #[.slice (some ⟨W.heap.size, 0, none⟩) 1 1, .int .i64 p, .int .i64 inc] 24)) := by
  have ho := aq_own W
  refine ⟨((Below.refl _ _).alloc (Nat.le_refl _) _).alloc (by simp) _, Cur3.new2 _ _ _ _ _ _, ?_, by omega, h⟩
  rw [show (firsts f 1).map (Value.int .i64) = [.int .i64 0] by rw [firsts_succ, h0]; rfl]
  exact ho.alloc _
theorem Bq1.under (h : Bq1 W p inc f k g cap u) (hb : Below u.heap.size u v) : Bq1 W p inc f k g cap v :=
  ⟨h.below.trans (hb.mono h.below.size), h.out.below hb, owns_apart h.own (below_apart (b := W.heap.size - 1) hb) (by have := h.one; omega), h.ne, h.one⟩
theorem Bq1.alloc (h : Bq1 W p inc f k g cap u) (o : Obj) : Bq1 W p inc f k g cap (u.alloc o) := h.under ((Below.refl _ _).alloc (Nat.le_refl _) o)
theorem Bq1.drew (h : Bq1 W p inc f k g cap u) : Bq1 W p inc f k g cap u.drew := h.under (Below.refl _ _).drew
theorem Bq1.drewN (h : Bq1 W p inc f k g cap u) (n : Nat) : Bq1 W p inc f k g cap (u.drewN n) := h.under ((Below.refl _ _).drewN n)
theorem Bq1.row (h : Bq1 W p inc f k g cap u) (hk1 : 1 ≤ k) (hk : k ≤ 100000) (hb : ∀ t, t < k → In64 (f t)) : RowZ u (some ⟨g, 0, none⟩) k cap (firsts f k) := by
  obtain ⟨a9, c9, hv9, R9, X9⟩ := rowZ_of_owns h.own (by omega) (fun i hi => by rw [firsts_length] at hi; rw [firsts_getD _ _ _ hi]; exact hb i hi)
  cases hv9
  exact R9
end

end Go.Proofs.Ytombgfpheiopgaa
