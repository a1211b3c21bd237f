/- Lists of curves: how they stand in memory; their sums; the rows of four numbers. By the verifier's side. -/
import Derived.Test.YtknimlpdpgpliaaLPwSPwU
import Derived.Laws.OwnMore
namespace Go.Proofs.Ytknimlpdpgpliaa
open Go.RowKit
set_option linter.unusedSimpArgs false

/-- A curve as it stands in a list. -/
structure Cv where
  a : Option Addr
  n : Nat
  cap : Nat
  zs : List Int
  p : Nat
  inc : Int

noncomputable def Cv.E (c : Cv) : Nat → Option Int := eC c.zs c.p c.inc
def Cv.vals (c : Cv) : List Value := [.slice c.a c.n c.cap, .int .i64 c.p, .int .i64 c.inc]

/-- A valid small curve whose values stand. -/
structure CvIn (u : World) (c : Cv) : Prop where
  row : RowZ u c.a c.n c.cap c.zs
  good : Good c.zs c.p c.inc
  nice : Nice 10000 c.E
theorem CvIn.under {u v : World} {c : Cv} (h : CvIn u c) (hb : Below u.heap.size u v) : CvIn v c := ⟨h.row.under hb, h.good, h.nice⟩

/-- The list stands in the block B. -/
def ListC (u : World) (B : Nat) (cs : List Cv) : Prop :=
  ∀ i c, cs[i]? = some c → (u.cell? ⟨B, i * 3, none⟩ = some (.slice c.a c.n c.cap) ∧ u.cell? ⟨B, i * 3 + 1, none⟩ = some (.int .i64 c.p) ∧ u.cell? ⟨B, i * 3 + 2, none⟩ = some (.int .i64 c.inc)) ∧ CvIn u c
theorem ListC.under {u v : World} {B : Nat} {cs : List Cv} (h : ListC u B cs) (hb : Below u.heap.size u v) : ListC v B cs := fun i c hc => by
  obtain ⟨⟨h1, h2, h3⟩, h4⟩ := h i c hc
  exact ⟨⟨(hb.cell (lt_of_cell h1)).trans h1, (hb.cell (lt_of_cell h2)).trans h2, (hb.cell (lt_of_cell h3)).trans h3⟩, h4.under hb⟩

/-- The sum of a list of curves, at each tick. -/
noncomputable def tot (cs : List Cv) : Nat → Option Int := cs.foldl (fun S c t => oadd (S t) (c.E t)) (fun _ => some 0)
theorem tot_snoc (cs : List Cv) (c : Cv) : tot (cs ++ [c]) = fun t => oadd (tot cs t) (c.E t) := by unfold tot; rw [List.foldl_append]; rfl
theorem tot_take {cs : List Cv} {k : Nat} {c : Cv} (h : cs[k]? = some c) : tot (cs.take (k + 1)) = fun t => oadd (tot (cs.take k) t) (c.E t) := by
  rw [List.take_add_one, h]; exact tot_snoc _ _
theorem nice_zero : Nice 0 (fun _ => some 0) := ⟨fun t h => (by cases h), fun t x y h k => by cases h; cases k; omega, fun t x _ h => by cases h; omega, .inr ⟨fun t => rfl, 0, fun t _ => rfl⟩⟩
theorem tot_nice (cs : List Cv) (h : ∀ (i : Nat) (c : Cv), cs[i]? = some c → Nice 10000 c.E) : ∀ k, k ≤ cs.length → Nice (10000 * (k : Int)) (tot (cs.take k))
  | 0, _ => nice_zero
  | k + 1, hk => by
    have hc : cs[k]? = some (cs[k]'(by omega)) := List.getElem?_eq_getElem (by omega)
    have := (tot_nice cs h k (by omega)).sum (h k _ hc)
    rw [tot_take hc]
    rwa [show (10000 * ((k + 1 : Nat) : Int)) = 10000 * (k : Int) + 10000 by omega]

theorem cell_newc {w : World} {cs : Array Value} {t : TypeId} {i : Nat} {v : Value} (h : cs[i]? = some v) : (w.alloc (.cells cs t)).cell? ⟨w.heap.size, i, none⟩ = some v := by
  rw [cell_of_row _ w.heap.size i cs t (0, 0) (heap_alloc_new w _)]; exact h

theorem list4 {w : World} {c0 c1 c2 c3 : Cv} {t : TypeId} (h0 : CvIn w c0) (h1 : CvIn w c1) (h2 : CvIn w c2) (h3 : CvIn w c3) :
    ListC (w.alloc (.cells #[.slice c0.a c0.n c0.cap, .int .i64 c0.p, .int .i64 c0.inc, .slice c1.a c1.n c1.cap, .int .i64 c1.p, .int .i64 c1.inc, .slice c2.a c2.n c2.cap, .int .i64 c2.p, .int .i64 c2.inc, .slice c3.a c3.n c3.cap, .int .i64 c3.p, .int .i64 c3.inc] t)) w.heap.size [c0, c1, c2, c3] := fun i c hc => by
  have hb := fun o => (Below.refl w.heap.size w).alloc (Nat.le_refl _) o
  have hi : i < 4 := by
    refine Nat.lt_of_not_le fun h => ?_
    rw [List.getElem?_eq_none (by simpa using h)] at hc; cases hc
  have hi4 : i = 0 ∨ i = 1 ∨ i = 2 ∨ i = 3 := by omega
  rcases hi4 with rfl | rfl | rfl | rfl <;> (cases hc; refine ⟨⟨cell_newc rfl, cell_newc rfl, cell_newc rfl⟩, ?_⟩)
  · exact h0.under (hb _)
  · exact h1.under (hb _)
  · exact h2.under (hb _)
  · exact h3.under (hb _)

/-! ## Four numbers in a block -/

structure Row4 (u : World) (B : Nat) (z0 z1 z2 z3 : Int) : Prop where
  c0 : u.cell? ⟨B, 0, none⟩ = some (.int .i64 z0)
  c1 : u.cell? ⟨B, 1, none⟩ = some (.int .i64 z1)
  c2 : u.cell? ⟨B, 2, none⟩ = some (.int .i64 z2)
  c3 : u.cell? ⟨B, 3, none⟩ = some (.int .i64 z3)
  f0 : u.frozen? ⟨B, 0, none⟩ = false
  f1 : u.frozen? ⟨B, 1, none⟩ = false
  f2 : u.frozen? ⟨B, 2, none⟩ = false
  f3 : u.frozen? ⟨B, 3, none⟩ = false
theorem Row4.under {u v : World} {B : Nat} {z0 z1 z2 z3 : Int} (h : Row4 u B z0 z1 z2 z3) (hb : Below u.heap.size u v) : Row4 v B z0 z1 z2 z3 :=
  have hl := lt_of_cell h.c0
  ⟨(hb.cell (p := ⟨B, 0, none⟩) hl).trans h.c0, (hb.cell (p := ⟨B, 1, none⟩) hl).trans h.c1, (hb.cell (p := ⟨B, 2, none⟩) hl).trans h.c2, (hb.cell (p := ⟨B, 3, none⟩) hl).trans h.c3,
   (hb.frozen (p := ⟨B, 0, none⟩) hl).trans h.f0, (hb.frozen (p := ⟨B, 1, none⟩) hl).trans h.f1, (hb.frozen (p := ⟨B, 2, none⟩) hl).trans h.f2, (hb.frozen (p := ⟨B, 3, none⟩) hl).trans h.f3⟩
theorem Row4.apart {u v : World} {B b : Nat} {z0 z1 z2 z3 : Int} (h : Row4 u B z0 z1 z2 z3) (ha : Apart b u v) (hB : B ≠ b) : Row4 v B z0 z1 z2 z3 := by
  have hl := lt_of_cell h.c0
  obtain ⟨h1, h2⟩ := acell ha
  exact ⟨(h1 B 0 hl hB).trans h.c0, (h1 B 1 hl hB).trans h.c1, (h1 B 2 hl hB).trans h.c2, (h1 B 3 hl hB).trans h.c3, (h2 B 0 hl hB).trans h.f0, (h2 B 1 hl hB).trans h.f1, (h2 B 2 hl hB).trans h.f2, (h2 B 3 hl hB).trans h.f3⟩
def Row4.get (z0 z1 z2 z3 : Int) (i : Nat) : Int := if i = 0 then z0 else if i = 1 then z1 else if i = 2 then z2 else z3
theorem Row4.cell {u : World} {B : Nat} {z0 z1 z2 z3 : Int} (h : Row4 u B z0 z1 z2 z3) {i : Nat} (hi : i < 4) : u.cell? ⟨B, i, none⟩ = some (.int .i64 (Row4.get z0 z1 z2 z3 i)) ∧ u.frozen? ⟨B, i, none⟩ = false := by
  have hi4 : i = 0 ∨ i = 1 ∨ i = 2 ∨ i = 3 := by omega
  rcases hi4 with rfl | rfl | rfl | rfl
  · exact ⟨h.c0, h.f0⟩
  · exact ⟨h.c1, h.f1⟩
  · exact ⟨h.c2, h.f2⟩
  · exact ⟨h.c3, h.f3⟩
def put4 (i : Nat) (x : Int) (j : Nat) (z : Int) : Int := if i = j then x else z
theorem Row4.set {u : World} {B : Nat} {z0 z1 z2 z3 : Int} (h : Row4 u B z0 z1 z2 z3) {i : Nat} (hi : i < 4) (x : Int) : Row4 (u.setCell ⟨B, i, none⟩ (.int .i64 x)) B (put4 i x 0 z0) (put4 i x 1 z1) (put4 i x 2 z2) (put4 i x 3 z3) := by
  obtain ⟨c0, c1, c2, c3, f0, f1, f2, f3⟩ := h
  have hi4 : i = 0 ∨ i = 1 ∨ i = 2 ∨ i = 3 := by omega
  rcases hi4 with rfl | rfl | rfl | rfl
  · exact ⟨by go_simp; rfl, by go_simp; rfl, by go_simp; rfl, by go_simp; rfl, by go_simp, by go_simp, by go_simp, by go_simp⟩
  · exact ⟨by go_simp; rfl, by go_simp; rfl, by go_simp; rfl, by go_simp; rfl, by go_simp, by go_simp, by go_simp, by go_simp⟩
  · exact ⟨by go_simp; rfl, by go_simp; rfl, by go_simp; rfl, by go_simp; rfl, by go_simp, by go_simp, by go_simp, by go_simp⟩
  · exact ⟨by go_simp; rfl, by go_simp; rfl, by go_simp; rfl, by go_simp; rfl, by go_simp, by go_simp, by go_simp, by go_simp⟩

/-- The four numbers are 0 to 3 in some order, as far as sums tell. -/
structure P4 (z0 z1 z2 z3 : Int) : Prop where
  b0 : 0 ≤ z0 ∧ z0 < 4
  b1 : 0 ≤ z1 ∧ z1 < 4
  b2 : 0 ≤ z2 ∧ z2 < 4
  b3 : 0 ≤ z3 ∧ z3 < 4
  sum : ∀ F : Int → Option Int, oadd (oadd (oadd (F z0) (F z1)) (F z2)) (F z3) = oadd (oadd (oadd (F 0) (F 1)) (F 2)) (F 3)
theorem P4.id : P4 0 1 2 3 := ⟨by omega, by omega, by omega, by omega, fun _ => rfl⟩

instance : Std.Commutative oadd := ⟨oadd_comm⟩
instance : Std.Associative oadd := ⟨oadd_assoc⟩
theorem P4.swap {z0 z1 z2 z3 : Int} (h : P4 z0 z1 z2 z3) {i j : Nat} (hi : i < 4) (hj : j < 4) {x y : Int} (hx : Row4.get z0 z1 z2 z3 i = x) (hy : Row4.get z0 z1 z2 z3 j = y) :
    P4 (put4 j x 0 (put4 i y 0 z0)) (put4 j x 1 (put4 i y 1 z1)) (put4 j x 2 (put4 i y 2 z2)) (put4 j x 3 (put4 i y 3 z3)) := by
  obtain ⟨b0, b1, b2, b3, hs⟩ := h
  have hi4 : i = 0 ∨ i = 1 ∨ i = 2 ∨ i = 3 := by omega
  have hj4 : j = 0 ∨ j = 1 ∨ j = 2 ∨ j = 3 := by omega
  rcases hi4 with rfl | rfl | rfl | rfl <;> rcases hj4 with rfl | rfl | rfl | rfl <;> subst hx hy <;> refine ⟨?_, ?_, ?_, ?_, fun F => ?_⟩ <;> (try (first | exact b0 | exact b1 | exact b2 | exact b3)) <;> rw [← hs F] <;> (show oadd (oadd (oadd (F _) (F _)) (F _)) (F _) = _) <;> (simp only [put4, Row4.get, Nat.reduceEqDiff, if_true, if_false, reduceIte] <;> ac_rfl)

end Go.Proofs.Ytknimlpdpgpliaa
