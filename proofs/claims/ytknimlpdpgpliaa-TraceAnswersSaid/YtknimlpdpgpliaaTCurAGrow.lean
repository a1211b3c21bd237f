/- Contracts beneath curve.Valid: a list that a slice reads; bounded, outOfRange, slices.ContainsFunc, slices.IsSorted at numbers. By the verifier's side. -/
import Derived.Test.YtknimlpdpgpliaaTBaseApartPick
import Derived.Test.YtknimlpdpgpliaaTCurM
import Derived.Deep.AppendLies
import Derived.WalkSpells
namespace Go.Proofs.Ytknimlpdpgpliaa
open Go.RowKit
set_option linter.unusedSimpArgs false

/-- The slice (a, n, cap) reads zs. -/
structure RowZ (w : World) (a : Option Addr) (n cap : Nat) (zs : List Int) : Prop where
  len : zs.length = n
  le : n ≤ cap
  sm : n ≤ 140737488355328
  cm : cap ≤ 9223372036854775807
  cell : ∀ i, i < n → ∃ x, a = some x ∧ w.cell? (x.add i) = some (.int .i64 (zs.getD i 0))
  bd : ∀ i, i < n → In64 (zs.getD i 0)

theorem RowZ.under {w w' : World} {a : Option Addr} {n cap : Nat} {zs : List Int} (h : RowZ w a n cap zs) (hb : Below w.heap.size w w') : RowZ w' a n cap zs :=
  ⟨h.len, h.le, h.sm, h.cm, fun i hi => by obtain ⟨x, h1, h2⟩ := h.cell i hi; exact ⟨x, h1, (hb.cell (lt_of_cell h2)).trans h2⟩, h.bd⟩
theorem RowZ.drewN {w : World} {a : Option Addr} {n cap : Nat} {zs : List Int} (h : RowZ w a n cap zs) (m : Nat) : RowZ (w.drewN m) a n cap zs := ⟨h.len, h.le, h.sm, h.cm, h.cell, h.bd⟩
theorem RowZ.alloc {w : World} {a : Option Addr} {n cap : Nat} {zs : List Int} (h : RowZ w a n cap zs) (o : Obj) : RowZ (w.alloc o) a n cap zs := h.under ((Below.refl _ _).alloc (Nat.le_refl _) _)
/-- The cell of an index, with the slice's address written out. -/
theorem RowZ.at {w : World} {a : Option Addr} {n cap : Nat} {zs : List Int} (h : RowZ w a n cap zs) (i : Nat) (hi : i < n) : ∃ x, a = some x ∧ w.cell? (x.add i) = some (.int .i64 (zs.getD i 0)) := h.cell i hi

/-- A reading of a list behind stores into another block. -/
theorem RowZ.store {w : World} {a : Option Addr} {n cap : Nat} {zs : List Int} (h : RowZ w a n cap zs) {q : Nat} (hq : ∀ x, a = some x → 1 ≤ n → x.block ≠ q) (i : Nat) (v : Value) : RowZ (w.setCell ⟨q, i, none⟩ v) a n cap zs :=
  ⟨h.len, h.le, h.sm, h.cm, fun j hj => by
    obtain ⟨x, h1, h2⟩ := h.cell j hj
    refine ⟨x, h1, (World.cell?_of_block (w := w) (a := x.add j) (Below.heap_setCell _ _ _ _ ?_)).trans h2⟩
    rw [add_block]; exact hq x h1 (by omega), h.bd⟩

end Go.Proofs.Ytknimlpdpgpliaa

namespace Go.Proofs.Ytknimlpdpgpliaa
open Go.RowKit
set_option linter.unusedSimpArgs false

theorem info_int : (Try.prog.info? 3).map (fun i => (i.zero, i.size, i.bytes)) = some (some (.int .i64 0), 1, 8) := by kernel_rfl

/-- A row of numbers of the call's own reads as a list. -/
theorem rowZ_of_owns {w : World} {base n : Nat} {v : Value} {zs : List Int} (h : w.ownsRow base 3 1 v n (zs.map (Value.int .i64))) (hn : n ≤ 140737488355328) (hb : ∀ i, i < zs.length → In64 (zs.getD i 0)) :
    ∃ a cap, v = .slice a n cap ∧ RowZ w a n cap zs ∧ ∀ x, a = some x → base ≤ x.block := by
  obtain ⟨hl, hr⟩ := h
  rw [List.length_map, Nat.mul_one] at hl
  rcases hr with ⟨rfl, rfl⟩ | ⟨g, cap, cur, rfl, hbase, hg, hnc, hcm, hsz, htake⟩
  · exact ⟨none, 0, rfl, ⟨hl, Nat.le_refl _, Nat.zero_le _, Nat.zero_le _, fun i hi => absurd hi (Nat.not_lt_zero _), fun i hi => absurd hi (Nat.not_lt_zero _)⟩, fun x hx => by cases hx⟩
  · refine ⟨some ⟨g, 0, none⟩, cap, rfl, ⟨hl, hnc, hn, by unfold maxLen at hcm; omega, fun i hi => ⟨_, rfl, ?_⟩, fun i hi => hb i (by omega)⟩, fun x hx => by cases hx; exact hbase⟩
    have hi' : i < zs.length := by omega
    have e1 : (zs.map (Value.int .i64))[i]? = some (.int .i64 (zs.getD i 0)) := by simp [List.getD, hi']
    rw [← htake, List.getElem?_take] at e1
    rw [if_pos (by omega)] at e1
    have e2 : cur[i]? = some (.int .i64 (zs.getD i 0)) := by simpa using e1
    have ea : ((⟨g, 0, none⟩ : Addr).add i) = ⟨g, i, none⟩ := by unfold Addr.add; split <;> simp_all
    rw [ea]
    simp [World.cell?, hg, e2]

theorem Apart.grown {b : Nat} {u v w : World} (h : Apart b u v) {row : Option Nat} (hg : v.grownBy w row) (hr : ∀ j, row = some j → u.heap.size ≤ j) : Apart b u w :=
  ⟨hg.os.trans h.os, hg.tape.trans h.tape, hg.output.trans h.output, Nat.le_trans h.size hg.size, fun k hk hb => (hg.block k (Nat.lt_of_lt_of_le hk h.size) (fun e => by have := hr k e.symm; omega)).trans (h.block k hk hb)⟩

end Go.Proofs.Ytknimlpdpgpliaa
