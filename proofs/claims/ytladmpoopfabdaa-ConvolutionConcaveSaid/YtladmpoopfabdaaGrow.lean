/- Rows of the call's own under append, stores and calls; moved out of CurD and KeepC. By the verifier's side. -/
import Derived.Test.YtladmpoopfabdaaCurA
import Derived.Deep.AppendLies
import Derived.WalkSpells
namespace Go.Proofs.Ytladmpoopfabdaa
open Go.RowKit
set_option linter.unusedSimpArgs false

theorem info_int : (Try.prog.info? 3).map (fun i => (i.zero, i.size, i.bytes)) = some (some (.int .i64 0), 1, 8) := by kernel_rfl

/-- A row of numbers of the call's own reads as a list. -/
theorem rowZ_of_owns {w : World} {base n : Nat} {v : Value} {zs : List Int} (h : w.ownsRow base 3 1 v n (zs.map (Value.int .i64))) (hn : n ≤ 140737488355328) (hb : ∀ i, i < zs.length → In64 (zs.getD i 0)) :
    ∃ a cap, v = .slice a n cap ∧ RowZ w a n cap zs ∧ ∀ x, a = some x → base ≤ x.block := by
  obtain ⟨hl, hr⟩ := h
  rw [List.length_map, Nat.mul_one] at hl
  rcases hr with ⟨rfl, rfl⟩ | ⟨g, cap, cur, rfl, hbase, hg, hnc, hcm, hsz, htake⟩
  · exact ⟨none, 0, rfl, ⟨hl, Nat.le_refl _, Nat.zero_le _, Nat.zero_le _, fun i hi => absurd hi (Nat.not_lt_zero _), fun i hi => absurd hi (Nat.not_lt_zero _)⟩, fun x hx => by cases hx⟩
  · refine ⟨some ⟨g, 0, none⟩, cap, rfl, ⟨hl, hnc, hn, by unfold maxLen at hcm; omega, fun i hi => ⟨_, rfl, ?_⟩, fun i hi => hb i (by omega)⟩, fun x hx => by cases hx; exact hbase⟩
    have hi' : i < zs.length := by omega
    have e1 : (zs.map (Value.int .i64))[i]? = some (.int .i64 (zs.getD i 0)) := by simp [List.getD, hi']
    rw [← htake, List.getElem?_take] at e1
    rw [if_pos (by omega)] at e1
    have e2 : cur[i]? = some (.int .i64 (zs.getD i 0)) := by simpa using e1
    have ea : ((⟨g, 0, none⟩ : Addr).add i) = ⟨g, i, none⟩ := by unfold Addr.add; split <;> simp_all
    rw [ea]
    simp [World.cell?, hg, e2]

theorem Apart.grown {b : Nat} {u v w : World} (h : Apart b u v) {row : Option Nat} (hg : v.grownBy w row) (hr : ∀ j, row = some j → u.heap.size ≤ j) : Apart b u w :=
  ⟨hg.os.trans h.os, hg.tape.trans h.tape, hg.output.trans h.output, Nat.le_trans h.size hg.size, fun k hk hb => (hg.block k (Nat.lt_of_lt_of_le hk h.size) (fun e => by have := hr k e.symm; omega)).trans (h.block k hk hb)⟩

theorem owns_apart {w w' : World} {b base : Nat} {v : Value} {k : Nat} {xs : List Value} (h : w.ownsRow base 3 1 v k xs) (ha : Apart b w w') (hb : b < base) : w'.ownsRow base 3 1 v k xs := by
  obtain ⟨hl, hr⟩ := h
  refine ⟨hl, ?_⟩
  rcases hr with h0 | ⟨g, cap, cur, hv, hbase, hg, h1, h2, h3, h4⟩
  · exact .inl h0
  · have hlt : g < w.heap.size := by
      rcases Nat.lt_or_ge g w.heap.size with h' | h'
      · exact h'
      · simp [Array.getElem?_eq_none h'] at hg
    exact .inr ⟨g, cap, cur, hv, hbase, (ha.block g hlt (by omega)).trans hg, h1, h2, h3, h4⟩
theorem owns_set {w : World} {base : Nat} {v : Value} {k : Nat} {xs : List Value} (h : w.ownsRow base 3 1 v k xs) {p : Addr} (hp : p.block < base) (x : Value) : (w.setCell p x).ownsRow base 3 1 v k xs := by
  obtain ⟨hl, hr⟩ := h
  refine ⟨hl, ?_⟩
  rcases hr with h0 | ⟨g, cap, cur, hv, hbase, hg, h1, h2, h3, h4⟩
  · exact .inl h0
  · exact .inr ⟨g, cap, cur, hv, hbase, (Below.heap_setCell _ _ _ _ (by omega)).trans hg, h1, h2, h3, h4⟩
theorem Cur3.grown {w w' : World} {b : Nat} {x0 x1 x2 : Value} (h : Cur3 w b x0 x1 x2) {row : Option Nat} (hg : w.grownBy w' row) (hr : ∀ j, row = some j → b < j) : Cur3 w' b x0 x1 x2 := by
  have hb : w'.heap[b]? = w.heap[b]? := hg.block b h.lt (fun e => by have := hr b e.symm; omega)
  exact ⟨(World.cell?_of_block (w := w) (a := ⟨b, 0, none⟩) hb).trans h.c0, (World.cell?_of_block (w := w) (a := ⟨b, 1, none⟩) hb).trans h.c1, (World.cell?_of_block (w := w) (a := ⟨b, 2, none⟩) hb).trans h.c2,
    (World.frozen?_of_block (w := w) (a := ⟨b, 0, none⟩) hb).trans h.f0, (World.frozen?_of_block (w := w) (a := ⟨b, 1, none⟩) hb).trans h.f1, (World.frozen?_of_block (w := w) (a := ⟨b, 2, none⟩) hb).trans h.f2⟩

end Go.Proofs.Ytladmpoopfabdaa
