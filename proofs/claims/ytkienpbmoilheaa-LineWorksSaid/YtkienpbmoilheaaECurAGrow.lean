/- Contracts beneath curve.Valid: a list that a slice reads; bounded, outOfRange, slices.ContainsFunc, slices.IsSorted at numbers. By the verifier's side. -/
import Derived.Test.YtkienpbmoilheaaEBaseApartPickKeepS
import Derived.Test.YtkienpbmoilheaaECurMCurN
import Derived.Deep.AppendLies
import Derived.WalkSpells
namespace Go.Proofs.Ytkienpbmoilheaa
open Go.RowKit
set_option linter.unusedSimpArgs false

/-- The slice (a, n, cap) reads zs. -/
structure RowZ (w : World) (a : Option Addr) (n cap : Nat) (zs : List Int) : Prop where
  len : zs.length = n
  le : n ≤ cap
  sm : n ≤ 140737488355328
  cm : cap ≤ 9223372036854775807
  cell : ∀ i, i < n → ∃ x, a = some x ∧ w.cell? (x.add i) = some (.int .i64 (zs.getD i 0))
  bd : ∀ i, i < n → In64 (zs.getD i 0)

theorem RowZ.under {w w' : World} {a : Option Addr} {n cap : Nat} {zs : List Int} (h : RowZ w a n cap zs) (hb : Below w.heap.size w w') : RowZ w' a n cap zs :=
  ⟨h.len, h.le, h.sm, h.cm, fun i hi => by obtain ⟨x, h1, h2⟩ := h.cell i hi; exact ⟨x, h1, (hb.cell (lt_of_cell h2)).trans h2⟩, h.bd⟩
theorem RowZ.drewN {w : World} {a : Option Addr} {n cap : Nat} {zs : List Int} (h : RowZ w a n cap zs) (m : Nat) : RowZ (w.drewN m) a n cap zs := ⟨h.len, h.le, h.sm, h.cm, h.cell, h.bd⟩
theorem RowZ.alloc {w : World} {a : Option Addr} {n cap : Nat} {zs : List Int} (h : RowZ w a n cap zs) (o : Obj) : RowZ (w.alloc o) a n cap zs := h.under ((Below.refl _ _).alloc (Nat.le_refl _) _)
/-- The cell of an index, with the slice's address written out. -/
theorem RowZ.at {w : World} {a : Option Addr} {n cap : Nat} {zs : List Int} (h : RowZ w a n cap zs) (i : Nat) (hi : i < n) : ∃ x, a = some x ∧ w.cell? (x.add i) = some (.int .i64 (zs.getD i 0)) := h.cell i hi

/-- Block b holds three values (a curve's slice, period and increment), and may be written. -/
structure Cur3 (w : World) (b : Nat) (x0 x1 x2 : Value) : Prop where
  c0 : w.cell? ⟨b, 0, none⟩ = some x0
  c1 : w.cell? ⟨b, 1, none⟩ = some x1
  c2 : w.cell? ⟨b, 2, none⟩ = some x2
  f0 : w.frozen? ⟨b, 0, none⟩ = false
  f1 : w.frozen? ⟨b, 1, none⟩ = false
  f2 : w.frozen? ⟨b, 2, none⟩ = false

theorem Cur3.lt {w : World} {b : Nat} {x0 x1 x2 : Value} (h : Cur3 w b x0 x1 x2) : b < w.heap.size := lt_of_cell h.c0
theorem Cur3.below {w w' : World} {b : Nat} {x0 x1 x2 : Value} (h : Cur3 w b x0 x1 x2) (hb : Below w.heap.size w w') : Cur3 w' b x0 x1 x2 :=
  ⟨(hb.cell (p := ⟨b, 0, none⟩) h.lt).trans h.c0, (hb.cell (p := ⟨b, 1, none⟩) h.lt).trans h.c1, (hb.cell (p := ⟨b, 2, none⟩) h.lt).trans h.c2,
    (hb.frozen (p := ⟨b, 0, none⟩) h.lt).trans h.f0, (hb.frozen (p := ⟨b, 1, none⟩) h.lt).trans h.f1, (hb.frozen (p := ⟨b, 2, none⟩) h.lt).trans h.f2⟩
theorem Cur3.apart {w w' : World} {b q : Nat} {x0 x1 x2 : Value} (h : Cur3 w b x0 x1 x2) (ha : Apart q w w') (hq : b ≠ q) : Cur3 w' b x0 x1 x2 := by
  obtain ⟨h1, h2⟩ := acell ha
  exact ⟨(h1 b 0 h.lt hq).trans h.c0, (h1 b 1 h.lt hq).trans h.c1, (h1 b 2 h.lt hq).trans h.c2, (h2 b 0 h.lt hq).trans h.f0, (h2 b 1 h.lt hq).trans h.f1, (h2 b 2 h.lt hq).trans h.f2⟩
theorem Cur3.alloc {w : World} {b : Nat} {x0 x1 x2 : Value} (h : Cur3 w b x0 x1 x2) (o : Obj) : Cur3 (w.alloc o) b x0 x1 x2 := h.below ((Below.refl _ _).alloc (Nat.le_refl _) o)
theorem Cur3.drewN {w : World} {b : Nat} {x0 x1 x2 : Value} (h : Cur3 w b x0 x1 x2) (n : Nat) : Cur3 (w.drewN n) b x0 x1 x2 := ⟨h.c0, h.c1, h.c2, h.f0, h.f1, h.f2⟩
theorem Cur3.new (w : World) (x0 x1 x2 : Value) (t : TypeId) : Cur3 (w.alloc (.cells #[x0, x1, x2] t)) w.heap.size x0 x1 x2 :=
  ⟨by go_simp, by go_simp, by go_simp, by go_simp, by go_simp, by go_simp⟩
theorem Cur3.new2 (w : World) (x0 x1 x2 : Value) (t : TypeId) (o : Obj) : Cur3 ((w.alloc o).alloc (.cells #[x0, x1, x2] t)) (w.heap.size + 1) x0 x1 x2 := by
  have := Cur3.new (w.alloc o) x0 x1 x2 t
  rwa [show (w.alloc o).heap.size = w.heap.size + 1 by simp] at this
theorem Cur3.other {w : World} {b q : Nat} {x0 x1 x2 : Value} (h : Cur3 w b x0 x1 x2) (hq : b ≠ q) (i : Nat) (v : Value) : Cur3 (w.setCell ⟨q, i, none⟩ v) b x0 x1 x2 := by
  have hb : (w.setCell ⟨q, i, none⟩ v).heap[b]? = w.heap[b]? := Below.heap_setCell _ _ _ _ hq
  exact ⟨(World.cell?_of_block (w := w) (a := ⟨b, 0, none⟩) hb).trans h.c0, (World.cell?_of_block (w := w) (a := ⟨b, 1, none⟩) hb).trans h.c1, (World.cell?_of_block (w := w) (a := ⟨b, 2, none⟩) hb).trans h.c2,
    (World.frozen?_of_block (w := w) (a := ⟨b, 0, none⟩) hb).trans h.f0, (World.frozen?_of_block (w := w) (a := ⟨b, 1, none⟩) hb).trans h.f1, (World.frozen?_of_block (w := w) (a := ⟨b, 2, none⟩) hb).trans h.f2⟩
theorem Cur3.set {w : World} {b : Nat} {x0 x1 x2 : Value} (h : Cur3 w b x0 x1 x2) (y0 y1 y2 : Value) : Cur3 (((w.setCell ⟨b, 0, none⟩ y0).setCell ⟨b, 1, none⟩ y1).setCell ⟨b, 2, none⟩ y2) b y0 y1 y2 := by
  obtain ⟨c0, c1, c2, f0, f1, f2⟩ := h
  exact ⟨by go_simp, by go_simp, by go_simp, by go_simp, by go_simp, by go_simp⟩
theorem Cur3.set2 {w : World} {b : Nat} {x0 x1 x2 : Value} (h : Cur3 w b x0 x1 x2) (y2 : Value) : Cur3 (w.setCell ⟨b, 2, none⟩ y2) b x0 x1 y2 := by
  obtain ⟨c0, c1, c2, f0, f1, f2⟩ := h
  exact ⟨by go_simp, by go_simp, by go_simp, by go_simp, by go_simp, by go_simp⟩
theorem below_set3 {B : Nat} {u w : World} {b : Nat} (h : Below B u w) (hb : B ≤ b) (y0 y1 y2 : Value) : Below B u (((w.setCell ⟨b, 0, none⟩ y0).setCell ⟨b, 1, none⟩ y1).setCell ⟨b, 2, none⟩ y2) :=
  ((h.setCell (p := ⟨b, 0, none⟩) hb _).setCell (p := ⟨b, 1, none⟩) hb _).setCell (p := ⟨b, 2, none⟩) hb _
/-- A reading of a list behind stores into another block. -/
theorem RowZ.store {w : World} {a : Option Addr} {n cap : Nat} {zs : List Int} (h : RowZ w a n cap zs) {q : Nat} (hq : ∀ x, a = some x → 1 ≤ n → x.block ≠ q) (i : Nat) (v : Value) : RowZ (w.setCell ⟨q, i, none⟩ v) a n cap zs :=
  ⟨h.len, h.le, h.sm, h.cm, fun j hj => by
    obtain ⟨x, h1, h2⟩ := h.cell j hj
    refine ⟨x, h1, (World.cell?_of_block (w := w) (a := x.add j) (Below.heap_setCell _ _ _ _ ?_)).trans h2⟩
    rw [add_block]; exact hq x h1 (by omega), h.bd⟩

end Go.Proofs.Ytkienpbmoilheaa

namespace Go.Proofs.Ytkienpbmoilheaa
open Go.RowKit
set_option linter.unusedSimpArgs false

theorem info_int : (Try.prog.info? 3).map (fun i => (i.zero, i.size, i.bytes)) = some (some (.int .i64 0), 1, 8) := by kernel_rfl

/-- A row of numbers of the call's own reads as a list. -/
theorem rowZ_of_owns {w : World} {base n : Nat} {v : Value} {zs : List Int} (h : w.ownsRow base 3 1 v n (zs.map (Value.int .i64))) (hn : n ≤ 140737488355328) (hb : ∀ i, i < zs.length → In64 (zs.getD i 0)) :
    ∃ a cap, v = .slice a n cap ∧ RowZ w a n cap zs ∧ ∀ x, a = some x → base ≤ x.block := by
  obtain ⟨hl, hr⟩ := h
  rw [List.length_map, Nat.mul_one] at hl
  rcases hr with ⟨rfl, rfl⟩ | ⟨g, cap, cur, rfl, hbase, hg, hnc, hcm, hsz, htake⟩
  · exact ⟨none, 0, rfl, ⟨hl, Nat.le_refl _, Nat.zero_le _, Nat.zero_le _, fun i hi => absurd hi (Nat.not_lt_zero _), fun i hi => absurd hi (Nat.not_lt_zero _)⟩, fun x hx => by cases hx⟩
  · refine ⟨some ⟨g, 0, none⟩, cap, rfl, ⟨hl, hnc, hn, by unfold maxLen at hcm; omega, fun i hi => ⟨_, rfl, ?_⟩, fun i hi => hb i (by omega)⟩, fun x hx => by cases hx; exact hbase⟩
    have hi' : i < zs.length := by omega
    have e1 : (zs.map (Value.int .i64))[i]? = some (.int .i64 (zs.getD i 0)) := by simp [List.getD, hi']
    rw [← htake, List.getElem?_take] at e1
    rw [if_pos (by omega)] at e1
    have e2 : cur[i]? = some (.int .i64 (zs.getD i 0)) := by simpa using e1
    have ea : ((⟨g, 0, none⟩ : Addr).add i) = ⟨g, i, none⟩ := by unfold Addr.add; split <;> simp_all
    rw [ea]
    simp [World.cell?, hg, e2]

theorem Apart.grown {b : Nat} {u v w : World} (h : Apart b u v) {row : Option Nat} (hg : v.grownBy w row) (hr : ∀ j, row = some j → u.heap.size ≤ j) : Apart b u w :=
  ⟨hg.os.trans h.os, hg.tape.trans h.tape, hg.output.trans h.output, Nat.le_trans h.size hg.size, fun k hk hb => (hg.block k (Nat.lt_of_lt_of_le hk h.size) (fun e => by have := hr k e.symm; omega)).trans (h.block k hk hb)⟩

theorem owns_apart {w w' : World} {b base : Nat} {v : Value} {k : Nat} {xs : List Value} (h : w.ownsRow base 3 1 v k xs) (ha : Apart b w w') (hb : b < base) : w'.ownsRow base 3 1 v k xs := by
  obtain ⟨hl, hr⟩ := h
  refine ⟨hl, ?_⟩
  rcases hr with h0 | ⟨g, cap, cur, hv, hbase, hg, h1, h2, h3, h4⟩
  · exact .inl h0
  · have hlt : g < w.heap.size := by
      rcases Nat.lt_or_ge g w.heap.size with h' | h'
      · exact h'
      · simp [Array.getElem?_eq_none h'] at hg
    exact .inr ⟨g, cap, cur, hv, hbase, (ha.block g hlt (by omega)).trans hg, h1, h2, h3, h4⟩
theorem Cur3.grown {w w' : World} {b : Nat} {x0 x1 x2 : Value} (h : Cur3 w b x0 x1 x2) {row : Option Nat} (hg : w.grownBy w' row) (hr : ∀ j, row = some j → b < j) : Cur3 w' b x0 x1 x2 := by
  have hb : w'.heap[b]? = w.heap[b]? := hg.block b h.lt (fun e => by have := hr b e.symm; omega)
  exact ⟨(World.cell?_of_block (w := w) (a := ⟨b, 0, none⟩) hb).trans h.c0, (World.cell?_of_block (w := w) (a := ⟨b, 1, none⟩) hb).trans h.c1, (World.cell?_of_block (w := w) (a := ⟨b, 2, none⟩) hb).trans h.c2,
    (World.frozen?_of_block (w := w) (a := ⟨b, 0, none⟩) hb).trans h.f0, (World.frozen?_of_block (w := w) (a := ⟨b, 1, none⟩) hb).trans h.f1, (World.frozen?_of_block (w := w) (a := ⟨b, 2, none⟩) hb).trans h.f2⟩

end Go.Proofs.Ytkienpbmoilheaa
