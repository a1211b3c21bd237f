/- Contracts beneath curve.Valid: a list that a slice reads; bounded, outOfRange, slices.ContainsFunc, slices.IsSorted at numbers. By the verifier's side. -/
import Derived.Test.YtknimlpdpgpliaaLBaseApartPickKeepS
import Derived.Test.YtknimlpdpgpliaaLCurMCurNOrdM
import Derived.BigQuiet
import Derived.Deep.QuietTactic
namespace Go.Proofs.Ytknimlpdpgpliaa
open Go.RowKit
set_option linter.unusedSimpArgs false

/-- The slice (a, n, cap) reads zs. -/
structure RowZ (w : World) (a : Option Addr) (n cap : Nat) (zs : List Int) : Prop where
  len : zs.length = n
  le : n ≤ cap
  sm : n ≤ 140737488355328
  cm : cap ≤ 9223372036854775807
  cell : ∀ i, i < n → ∃ x, a = some x ∧ w.cell? (x.add i) = some (.int .i64 (zs.getD i 0))
  bd : ∀ i, i < n → In64 (zs.getD i 0)

theorem RowZ.under {w w' : World} {a : Option Addr} {n cap : Nat} {zs : List Int} (h : RowZ w a n cap zs) (hb : Below w.heap.size w w') : RowZ w' a n cap zs :=
  ⟨h.len, h.le, h.sm, h.cm, fun i hi => by obtain ⟨x, h1, h2⟩ := h.cell i hi; exact ⟨x, h1, (hb.cell (lt_of_cell h2)).trans h2⟩, h.bd⟩
theorem RowZ.drewN {w : World} {a : Option Addr} {n cap : Nat} {zs : List Int} (h : RowZ w a n cap zs) (m : Nat) : RowZ (w.drewN m) a n cap zs := ⟨h.len, h.le, h.sm, h.cm, h.cell, h.bd⟩
theorem RowZ.alloc {w : World} {a : Option Addr} {n cap : Nat} {zs : List Int} (h : RowZ w a n cap zs) (o : Obj) : RowZ (w.alloc o) a n cap zs := h.under ((Below.refl _ _).alloc (Nat.le_refl _) _)
/-- The cell of an index, with the slice's address written out. -/
theorem RowZ.at {w : World} {a : Option Addr} {n cap : Nat} {zs : List Int} (h : RowZ w a n cap zs) (i : Nat) (hi : i < n) : ∃ x, a = some x ∧ w.cell? (x.add i) = some (.int .i64 (zs.getD i 0)) := h.cell i hi

theorem RowZ.cellS {w : World} {a : Option Addr} {n cap : Nat} {zs : List Int} (h : RowZ w a n cap zs) (j : Nat) (hj : j + 1 < n) :
    ∃ x, a = some x ∧ w.cell? ⟨x.block, x.off + (j + 1), none⟩ = some (.int .i64 (zs.getD (j + 1) 0)) ∧ w.cell? (x.add j) = some (.int .i64 (zs.getD j 0)) := by
  obtain ⟨x, h1, h2⟩ := h.cell (j + 1) hj
  obtain ⟨x', h3, h4⟩ := h.cell j (by omega)
  obtain rfl : x = x' := Option.some.inj (h1.symm.trans h3)
  exact ⟨x, h1, h2, h4⟩

/-- Block b holds three values (a curve's slice, period and increment), and may be written. -/
structure Cur3 (w : World) (b : Nat) (x0 x1 x2 : Value) : Prop where
  c0 : w.cell? ⟨b, 0, none⟩ = some x0
  c1 : w.cell? ⟨b, 1, none⟩ = some x1
  c2 : w.cell? ⟨b, 2, none⟩ = some x2
  f0 : w.frozen? ⟨b, 0, none⟩ = false
  f1 : w.frozen? ⟨b, 1, none⟩ = false
  f2 : w.frozen? ⟨b, 2, none⟩ = false

theorem Cur3.lt {w : World} {b : Nat} {x0 x1 x2 : Value} (h : Cur3 w b x0 x1 x2) : b < w.heap.size := lt_of_cell h.c0
theorem Cur3.below {w w' : World} {b : Nat} {x0 x1 x2 : Value} (h : Cur3 w b x0 x1 x2) (hb : Below w.heap.size w w') : Cur3 w' b x0 x1 x2 :=
  ⟨(hb.cell (p := ⟨b, 0, none⟩) h.lt).trans h.c0, (hb.cell (p := ⟨b, 1, none⟩) h.lt).trans h.c1, (hb.cell (p := ⟨b, 2, none⟩) h.lt).trans h.c2,
    (hb.frozen (p := ⟨b, 0, none⟩) h.lt).trans h.f0, (hb.frozen (p := ⟨b, 1, none⟩) h.lt).trans h.f1, (hb.frozen (p := ⟨b, 2, none⟩) h.lt).trans h.f2⟩
theorem Cur3.apart {w w' : World} {b q : Nat} {x0 x1 x2 : Value} (h : Cur3 w b x0 x1 x2) (ha : Apart q w w') (hq : b ≠ q) : Cur3 w' b x0 x1 x2 := by
  obtain ⟨h1, h2⟩ := acell ha
  exact ⟨(h1 b 0 h.lt hq).trans h.c0, (h1 b 1 h.lt hq).trans h.c1, (h1 b 2 h.lt hq).trans h.c2, (h2 b 0 h.lt hq).trans h.f0, (h2 b 1 h.lt hq).trans h.f1, (h2 b 2 h.lt hq).trans h.f2⟩
theorem Cur3.alloc {w : World} {b : Nat} {x0 x1 x2 : Value} (h : Cur3 w b x0 x1 x2) (o : Obj) : Cur3 (w.alloc o) b x0 x1 x2 := h.below ((Below.refl _ _).alloc (Nat.le_refl _) o)
theorem Cur3.drewN {w : World} {b : Nat} {x0 x1 x2 : Value} (h : Cur3 w b x0 x1 x2) (n : Nat) : Cur3 (w.drewN n) b x0 x1 x2 := ⟨h.c0, h.c1, h.c2, h.f0, h.f1, h.f2⟩
theorem Cur3.new (w : World) (x0 x1 x2 : Value) (t : TypeId) : Cur3 (w.alloc (.cells #[x0, x1, x2] t)) w.heap.size x0 x1 x2 :=
  ⟨by go_simp, by go_simp, by go_simp, by go_simp, by go_simp, by go_simp⟩
theorem Cur3.new2 (w : World) (x0 x1 x2 : Value) (t : TypeId) (o : Obj) : Cur3 ((w.alloc o).alloc (.cells #[x0, x1, x2] t)) (w.heap.size + 1) x0 x1 x2 := by
  have := Cur3.new (w.alloc o) x0 x1 x2 t
  rwa [show (w.alloc o).heap.size = w.heap.size + 1 by simp] at this
theorem Cur3.other {w : World} {b q : Nat} {x0 x1 x2 : Value} (h : Cur3 w b x0 x1 x2) (hq : b ≠ q) (i : Nat) (v : Value) : Cur3 (w.setCell ⟨q, i, none⟩ v) b x0 x1 x2 := by
  have hb : (w.setCell ⟨q, i, none⟩ v).heap[b]? = w.heap[b]? := Below.heap_setCell _ _ _ _ hq
  exact ⟨(World.cell?_of_block (w := w) (a := ⟨b, 0, none⟩) hb).trans h.c0, (World.cell?_of_block (w := w) (a := ⟨b, 1, none⟩) hb).trans h.c1, (World.cell?_of_block (w := w) (a := ⟨b, 2, none⟩) hb).trans h.c2,
    (World.frozen?_of_block (w := w) (a := ⟨b, 0, none⟩) hb).trans h.f0, (World.frozen?_of_block (w := w) (a := ⟨b, 1, none⟩) hb).trans h.f1, (World.frozen?_of_block (w := w) (a := ⟨b, 2, none⟩) hb).trans h.f2⟩
theorem Cur3.set {w : World} {b : Nat} {x0 x1 x2 : Value} (h : Cur3 w b x0 x1 x2) (y0 y1 y2 : Value) : Cur3 (((w.setCell ⟨b, 0, none⟩ y0).setCell ⟨b, 1, none⟩ y1).setCell ⟨b, 2, none⟩ y2) b y0 y1 y2 := by
  obtain ⟨c0, c1, c2, f0, f1, f2⟩ := h
  exact ⟨by go_simp, by go_simp, by go_simp, by go_simp, by go_simp, by go_simp⟩
theorem Cur3.set0 {w : World} {b : Nat} {x0 x1 x2 : Value} (h : Cur3 w b x0 x1 x2) (y0 : Value) : Cur3 (w.setCell ⟨b, 0, none⟩ y0) b y0 x1 x2 := by
  obtain ⟨c0, c1, c2, f0, f1, f2⟩ := h
  exact ⟨by go_simp, by go_simp, by go_simp, by go_simp, by go_simp, by go_simp⟩
theorem Cur3.set2 {w : World} {b : Nat} {x0 x1 x2 : Value} (h : Cur3 w b x0 x1 x2) (y2 : Value) : Cur3 (w.setCell ⟨b, 2, none⟩ y2) b x0 x1 y2 := by
  obtain ⟨c0, c1, c2, f0, f1, f2⟩ := h
  exact ⟨by go_simp, by go_simp, by go_simp, by go_simp, by go_simp, by go_simp⟩
theorem below_set3 {B : Nat} {u w : World} {b : Nat} (h : Below B u w) (hb : B ≤ b) (y0 y1 y2 : Value) : Below B u (((w.setCell ⟨b, 0, none⟩ y0).setCell ⟨b, 1, none⟩ y1).setCell ⟨b, 2, none⟩ y2) :=
  ((h.setCell (p := ⟨b, 0, none⟩) hb _).setCell (p := ⟨b, 1, none⟩) hb _).setCell (p := ⟨b, 2, none⟩) hb _
/-- A reading of a list behind stores into another block. -/
theorem RowZ.store {w : World} {a : Option Addr} {n cap : Nat} {zs : List Int} (h : RowZ w a n cap zs) {q : Nat} (hq : ∀ x, a = some x → 1 ≤ n → x.block ≠ q) (i : Nat) (v : Value) : RowZ (w.setCell ⟨q, i, none⟩ v) a n cap zs :=
  ⟨h.len, h.le, h.sm, h.cm, fun j hj => by
    obtain ⟨x, h1, h2⟩ := h.cell j hj
    refine ⟨x, h1, (World.cell?_of_block (w := w) (a := x.add j) (Below.heap_setCell _ _ _ _ ?_)).trans h2⟩
    rw [add_block]; exact hq x h1 (by omega), h.bd⟩

def inB (v : Int) : Bool := decide (0 ≤ v) && decide (v ≤ 1073741824)
def outB (v : Int) : Bool := !(inB v) && !(v == 4611686018427387904)

set_option maxHeartbeats 400000 in
theorem bounded_any (v : Int) (w : World) : Calls Try.prog 137 #[.int .i64 v] w fun e w' => e = .returned (.bool (inB v)) ∧ w = w' := by
  unfold inB
  by_cases h1 : 0 ≤ v
  · by_cases h2 : v ≤ 1073741824
    · go_enter Try.func137, Try.ntmps137
      go_wp2
      go_ret
      exact ⟨by simp [h1, h2], rfl⟩
    · go_enter Try.func137, Try.ntmps137
      go_wp2
      go_ret
      exact ⟨by simp [h1, h2], rfl⟩
  · go_enter Try.func137, Try.ntmps137
    go_wp2
    go_ret
    exact ⟨by rw [decide_eq_false (show ¬ 0 ≤ v by omega), Bool.false_and]; rfl, rfl⟩

set_option maxHeartbeats 400000 in
theorem outOfRange_any (v : Int) (w : World) : Calls Try.prog 139 #[.int .i64 v] w fun e w' => e = .returned (.bool (outB v)) ∧ w = w' := by
  unfold outB
  cases hb : inB v with
  | true =>
    have HB := Lib.hid hb
    clear hb
    go_enter Try.func139, Try.ntmps139
    go_wp2_with fail
    refine (bounded_any v _).mono ?_
    rintro e w1 ⟨rfl, rfl⟩
    rw [HB.out]
    go_wp2_with fail
    go_ret
    exact ⟨rfl, rfl⟩
  | false =>
    have HB := Lib.hid hb
    clear hb
    by_cases he : v = 4611686018427387904
    · have he' : (v != 4611686018427387904) = false := by simpa using he
      have HE := Lib.hid he
      clear he
      go_enter Try.func139, Try.ntmps139
      go_wp2_with fail
      refine (bounded_any v _).mono ?_
      rintro e w1 ⟨rfl, rfl⟩
      rw [HB.out]
      go_wp2_with fail
      go_ret
      exact ⟨by simp [HE.out], rfl⟩
    · have he' : (v != 4611686018427387904) = true := by simpa using he
      have HE := Lib.hid he
      clear he
      go_enter Try.func139, Try.ntmps139
      go_wp2_with fail
      refine (bounded_any v _).mono ?_
      rintro e w1 ⟨rfl, rfl⟩
      rw [HB.out]
      go_wp2_with fail
      go_ret
      exact ⟨by simp [HE.out], rfl⟩

/-- Some number of the list is out of range. -/
def badB (zs : List Int) : Bool := zs.any outB

theorem badB_of {zs : List Int} {i : Nat} (hi : i < zs.length) (h : outB (zs.getD i 0) = true) : badB zs = true := by
  unfold badB; rw [List.any_eq_true]
  refine ⟨zs.getD i 0, ?_, h⟩
  have : zs.getD i 0 = zs[i] := by simp [List.getD, List.getElem?_eq_getElem hi]
  rw [this]; exact List.getElem_mem hi
theorem badB_not {zs : List Int} (h : ∀ i, i < zs.length → outB (zs.getD i 0) = false) : badB zs = false := by
  unfold badB; rw [List.any_eq_false]
  intro x hx
  obtain ⟨i, hi, rfl⟩ := List.mem_iff_getElem.1 hx
  have := h i hi
  have e : zs.getD i 0 = zs[i] := by simp [List.getD, List.getElem?_eq_getElem hi]
  rw [e] at this; simp [this]

/-- A number is handed back that is negative exactly if nothing was found. -/
def Found (b : Bool) (w : World) (e : Ending) (w' : World) : Prop := ∃ r : Int, -1 ≤ r ∧ r ≤ 140737488355328 ∧ decide (0 ≤ r) = b ∧ e = .returned (.int .i64 r) ∧ w = w'

set_option maxHeartbeats 800000 in
theorem indexFunc_any (a : Option Addr) (n cap : Nat) (zs : List Int) (w : World) (h : RowZ w a n cap zs) :
    Calls Try.prog 162 #[.slice a n cap, .func (.func 139) #[] #[]] w (Found (badB zs) w) := by
  have H := Lib.hid h
  have hn : n ≤ 140737488355328 := h.sm
  clear h
  go_enter Try.func162, Try.ntmps162
  go_wp2
  go_loop [8] (fun vi => ∃ k : Nat, vi = .int .i64 k ∧ k ≤ n ∧ Hid (∀ i, i < k → outB (zs.getD i 0) = false)) (fun vi => n - (intOf vi).toNat)
  case atStart => exact ⟨0, rfl, Nat.zero_le _, fun i hi => absurd hi (Nat.not_lt_zero _)⟩
  case round =>
    obtain ⟨k, rfl, hk, hall⟩ := hrel
    by_cases hlt : k < n
    · obtain ⟨x, rfl, hc⟩ := H.out.cell k hlt
      obtain ⟨z, hz⟩ : ∃ z, zs.getD k 0 = z := ⟨_, rfl⟩
      rw [hz] at hc
      have HZ := Lib.hid hz
      clear hz
      cases hb : outB z with
      | true =>
        have HB := Lib.hid hb
        clear hb
        go_wp2_with fail
        refine (outOfRange_any z _).mono ?_
        rintro e w1 ⟨rfl, rfl⟩
        rw [HB.out]
        go_wp2_with fail
        go_ret
        exact ⟨k, by omega, by omega, by rw [badB_of (by rw [H.out.len]; exact hlt) (by rw [HZ.out]; exact HB.out)]; simp, rfl, rfl⟩
      | false =>
        have HB := Lib.hid hb
        clear hb
        go_wp2_with fail
        refine (outOfRange_any z _).mono ?_
        rintro e w1 ⟨rfl, rfl⟩
        rw [HB.out]
        go_wp2_with fail
        go_round
        case rel =>
          refine ⟨k + 1, by go_num, by omega, fun i hi => ?_⟩
          by_cases he : i = k
          · subst he; rw [HZ.out]; exact HB.out
          · exact hall.out i (by omega)
        case measure => simp [intOf]; omega
    · obtain rfl : k = n := by omega
      go_wp2_with fail
      go_ret
      exact ⟨-1, by omega, by omega, by rw [badB_not (fun i hi => hall.out i (by rw [H.out.len] at hi; exact hi))]; simp, rfl, rfl⟩

set_option maxHeartbeats 400000 in
theorem containsFunc_any (a : Option Addr) (n cap : Nat) (zs : List Int) (w : World) (h : RowZ w a n cap zs) :
    Calls Try.prog 138 #[.slice a n cap, .func (.func 139) #[] #[]] w fun e w' => e = .returned (.bool (badB zs)) ∧ w = w' := by
  have H := Lib.hid h
  clear h
  generalize hb : badB zs = b
  have HB := Lib.hid hb
  clear hb
  go_enter Try.func138, Try.ntmps138
  go_wp2_with fail
  refine (indexFunc_any a n cap zs _ H.out).mono ?_
  rintro e w1 ⟨r, h1, h2, h3, rfl, rfl⟩
  rw [HB.out] at h3
  subst h3
  go_wp2_with fail
  go_ret
  exact ⟨rfl, rfl⟩

set_option maxHeartbeats 400000 in
theorem isNaN_any (v : Int) (w : World) : Calls Try.prog 148 #[.int .i64 v] w fun e w' => e = .returned (.bool false) ∧ w = w' := by
  go_enter Try.func148, Try.ntmps148
  go_wp2
  go_ret
  exact ⟨by simp, rfl⟩

set_option maxHeartbeats 400000 in
theorem less_any (x y : Int) (w : World) : Calls Try.prog 163 #[.int .i64 x, .int .i64 y] w fun e w' => e = .returned (.bool (decide (x < y))) ∧ w = w' := by
  go_enter Try.func163, Try.ntmps163
  go_wp2_with fail
  refine (isNaN_any x _).mono ?_
  rintro e w1 ⟨rfl, rfl⟩
  go_wp2_with fail
  go_ret
  exact ⟨by simp, rfl⟩

/-- The list does not decrease. -/
def sortedB (zs : List Int) : Bool := (List.range (zs.length - 1)).all fun i => decide (zs.getD i 0 ≤ zs.getD (i + 1) 0)

theorem sortedB_iff (zs : List Int) : sortedB zs = true ↔ ∀ i, i + 1 < zs.length → zs.getD i 0 ≤ zs.getD (i + 1) 0 := by
  unfold sortedB
  rw [List.all_eq_true]
  constructor
  · intro h i hi
    have := h i (List.mem_range.2 (by omega))
    simpa using this
  · intro h i hi
    have := h i (by have := List.mem_range.1 hi; omega)
    simpa using this

end Go.Proofs.Ytknimlpdpgpliaa

namespace Go.Proofs.Ytknimlpdpgpliaa
open Go.RowKit
set_option linter.unusedSimpArgs false

theorem less_q (x y : Int) (b : Bool) (hb : decide (x < y) = b) (w : World) : Calls Try.prog 163 #[.int .i64 x, .int .i64 y] w fun e w' => e = .returned (.bool b) ∧ w' = w := by
  subst hb
  exact (less_any x y w).mono fun _ _ ⟨h1, h2⟩ => ⟨h1, h2.symm⟩

theorem hdr_add {w wr : World} (h : ∃ m, wr = w.drewN m) (n : Nat) : ∃ m, wr.drewN n = w.drewN m := by
  obtain ⟨m, rfl⟩ := h; exact ⟨m + n, World.drewN_drewN _ _ _⟩

set_option maxHeartbeats 800000 in
theorem isSorted_any (a : Option Addr) (n cap : Nat) (zs : List Int) (w : World) (h : RowZ w a n cap zs) :
    Calls Try.prog 140 #[.slice a n cap] w (Drew (.bool (sortedB zs)) w) := by
  have H := Lib.hid h
  have hn : n ≤ 140737488355328 := h.sm
  clear h
  generalize hs : sortedB zs = sb
  have HS := Lib.hid hs
  clear hs
  go_enter Try.func140, Try.ntmps140
  go_wp2
  go_loopw [3] (fun vi wr => ∃ i : Int, vi = .int .i64 i ∧ -1 ≤ i ∧ i < n ∧ Hid (∀ j : Nat, i ≤ j → j + 1 < n → zs.getD j 0 ≤ zs.getD (j + 1) 0) ∧ Hid (∃ m, wr = w.drewN m)) (fun vi _ => (intOf vi + 1).toNat)
  case atStart => exact ⟨(n : Int) - 1, rfl, by omega, by omega, fun j h1 h2 => by omega, 0, rfl⟩
  case round =>
    obtain ⟨i, rfl, h1, h2, hall, hdr⟩ := hrel
    have HW : Hid (RowZ wr a n cap zs) := Lib.hid (by obtain ⟨m, hm⟩ := hdr.out; rw [hm]; exact H.out.drewN m)
    by_cases hlt : 0 < i
    · obtain ⟨j, rfl⟩ : ∃ j : Nat, i = (j : Int) + 1 := ⟨(i - 1).toNat, by omega⟩
      obtain ⟨x, rfl, c1, c0⟩ := HW.out.cellS j (by omega)
      obtain ⟨y, hy⟩ : ∃ z, zs.getD (j + 1) 0 = z := ⟨_, rfl⟩
      obtain ⟨z, hz⟩ : ∃ z, zs.getD j 0 = z := ⟨_, rfl⟩
      rw [hy] at c1
      rw [hz] at c0
      have HY := Lib.hid hy
      have HZ := Lib.hid hz
      clear hy hz
      have hw1 : IntKind.i64.wrap (j : Int) = j := IntWalk.i64_in _ ⟨by omega, by omega⟩
      have hw2 : (0 : Int) ≤ (j : Int) := by omega
      have hw3 : (0 : Int) ≤ (j : Int) + 1 := by omega
      have hw4 : ((j : Int) + 1).toNat = j + 1 := by omega
      have hw5 : (j : Int) < (n : Int) := by omega
      cases hb : decide (y < z) with
      | true =>
        have HB := Lib.hid hb
        clear hb
        go_wp2_with fail
        go_quiet ((go_at_call 163; exact Calls.quiet_of_same (less_q _ _ true HB.out _)))
        go_wp2_with fail
        go_ret
        refine ⟨?_, hdr_add hdr.out nq⟩
        have hnot : ¬ sortedB zs = true := by
          rw [sortedB_iff]
          intro hh
          have h3 := hh j (by rw [H.out.len]; omega)
          have h4 := of_decide_eq_true HB.out
          rw [HY.out, HZ.out] at h3
          omega
        rw [← HS.out, Bool.eq_false_iff.2 hnot]; rfl
      | false =>
        have HB := Lib.hid hb
        clear hb
        go_wp2_with fail
        go_quiet ((go_at_call 163; exact Calls.quiet_of_same (less_q _ _ false HB.out _)))
        clear hw1 hw2 hw3 hw4 hw5
        go_wp2_with fail
        go_roundw
        case rel =>
          refine ⟨(j : Int), by go_num, by omega, by omega, fun q hq1 hq2 => ?_, hdr_add hdr.out nq⟩
          by_cases he : q = j
          · subst he
            have h4 := of_decide_eq_false HB.out
            rw [HY.out, HZ.out]
            omega
          · exact hall.out q (by omega) hq2
        case measure => simp [intOf]; omega
    · go_wp2_with fail
      go_ret
      refine ⟨?_, hdr.out⟩
      have hyes : sortedB zs = true := by
        rw [sortedB_iff]
        intro j hj
        rw [H.out.len] at hj
        exact hall.out j (by omega) hj
      rw [← HS.out, hyes]; rfl

end Go.Proofs.Ytknimlpdpgpliaa

namespace Go.Proofs.Ytknimlpdpgpliaa
open Go.RowKit
set_option linter.unusedSimpArgs false

/-- Whether a curve is valid, as the program tests it. -/
def okC (zs : List Int) (p inc : Int) : Bool :=
  if 400 < zs.length ∨ p < 1 ∨ (zs.length : Int) < p ∨ 120 < p then false
  else if inB inc = false then false
  else if badB zs = true then false
  else if sortedB zs = false then false
  else if zs.getD (zs.length - 1) 0 = infV then decide (p = 1) && decide (inc = 0)
  else decide (zs.getD (zs.length - 1) 0 ≤ zs.getD (zs.length - p.toNat) 0 + inc)

theorem inB_iff (v : Int) : inB v = true ↔ 0 ≤ v ∧ v ≤ 1073741824 := by unfold inB; simp
theorem outB_false (v : Int) : outB v = false ↔ (0 ≤ v ∧ v ≤ 1073741824) ∨ v = 4611686018427387904 := by
  unfold outB
  rw [← inB_iff]
  cases h : inB v <;> simp

theorem badB_false {zs : List Int} : badB zs = false ↔ ∀ i, i < zs.length → (0 ≤ zs.getD i 0 ∧ zs.getD i 0 ≤ 1073741824) ∨ zs.getD i 0 = infV := by
  constructor
  · intro h i hi
    rw [← outB_false]
    cases hb : outB (zs.getD i 0) with
    | false => rfl
    | true => rw [badB_of hi hb] at h; cases h
  · intro h
    exact badB_not fun i hi => (outB_false _).2 (h i hi)

theorem okC_iff (zs : List Int) (p : Nat) (inc : Int) : okC zs p inc = true ↔ Good zs p inc := by
  unfold okC
  constructor
  · intro h
    split at h
    · cases h
    · rename_i h1
      split at h
      · cases h
      · rename_i h2
        split at h
        · cases h
        · rename_i h3
          split at h
          · cases h
          · rename_i h4
            have g2 := (inB_iff inc).1 (by simpa using h2)
            have g3 := badB_false.1 (by simpa using h3)
            have g4 := (sortedB_iff zs).1 (by simpa using h4)
            split at h
            · rename_i h5
              simp at h
              exact ⟨by omega, by omega, by omega, by omega, g2.1, g2.2, g3, g4, fun _ => ⟨by omega, h.2⟩, fun hx => absurd h5 hx⟩
            · rename_i h5
              have h6 := of_decide_eq_true h
              rw [Int.toNat_natCast] at h6
              exact ⟨by omega, by omega, by omega, by omega, g2.1, g2.2, g3, g4, fun hx => absurd hx h5, fun _ => h6⟩
  · intro g
    have a1 := g.few; have a2 := g.p1; have a3 := g.p2; have a4 := g.p3
    rw [if_neg (by omega), if_neg (by rw [(inB_iff inc).2 ⟨g.i0, g.i1⟩]; decide), if_neg (by rw [badB_false.2 g.val]; decide), if_neg (by rw [(sortedB_iff zs).2 g.mono]; decide)]
    split
    · rename_i h5
      obtain ⟨h6, h7⟩ := g.tailI h5
      simp [h6, h7]
    · rename_i h5
      rw [Int.toNat_natCast]
      exact decide_eq_true (g.tailF h5)

theorem okC_pos {zs : List Int} {p inc : Int} (h : okC zs p inc = true) : ∃ q : Nat, p = q ∧ Good zs q inc := by
  have h1 : 1 ≤ p := by
    unfold okC at h
    split at h
    · cases h
    · omega
  obtain ⟨q, rfl⟩ := Int.eq_ofNat_of_zero_le (show 0 ≤ p by omega)
  exact ⟨q, rfl, (okC_iff zs q inc).1 h⟩

/-- A curve as a value. -/
abbrev curV (a : Option Addr) (n cap : Nat) (p inc : Int) : Value := .agg #[.slice a n cap, .int .i64 p, .int .i64 inc]

set_option maxHeartbeats 3200000 in
theorem valid_any (a : Option Addr) (n cap : Nat) (zs : List Int) (p inc : Int) (hp : In64 p) (hi : In64 inc) (b : Bool) (hb : okC zs p inc = b) (w : World) (h : RowZ w a n cap zs) :
    Calls Try.prog 79 #[curV a n cap p inc] w (Says (.bool b) w) := by
  have H := Lib.hid h
  have HB := Lib.hid hb
  have hn := h.sm
  have hl := h.len
  subst hl
  clear h hb
  by_cases h1 : 400 < zs.length
  · have e : b = false := by rw [← HB.out]; unfold okC; rw [if_pos (.inl h1)]
    subst e
    go_enter Try.func79, Try.ntmps79
    go_wp2_with fail
    go_ret
    exact ⟨rfl, (Below.refl _ _).alloc (Nat.le_refl _) _⟩
  by_cases h2 : p < 1
  · have e : b = false := by rw [← HB.out]; unfold okC; rw [if_pos (.inr (.inl h2))]
    subst e
    go_enter Try.func79, Try.ntmps79
    go_wp2_with fail
    go_ret
    exact ⟨rfl, (Below.refl _ _).alloc (Nat.le_refl _) _⟩
  obtain ⟨q, rfl⟩ := Int.eq_ofNat_of_zero_le (show 0 ≤ p by omega)
  by_cases h3 : zs.length < q ∨ 120 < q
  · have e : b = false := by rw [← HB.out]; unfold okC; rw [if_pos (by omega)]
    subst e
    by_cases h4 : zs.length ≤ 120
    · have h5 : zs.length < q := by omega
      clear h3
      go_enter Try.func79, Try.ntmps79
      go_wp2_with fail
      go_ret
      exact ⟨rfl, (Below.refl _ _).alloc (Nat.le_refl _) _⟩
    · have h5 : 120 < q := by omega
      have h6 : (120 : Int) < (zs.length : Int) := by omega
      clear h3
      go_enter Try.func79, Try.ntmps79
      go_wp2_with fail
      go_ret
      exact ⟨rfl, (Below.refl _ _).alloc (Nat.le_refl _) _⟩
  have q1 : 1 ≤ q := by omega
  have q2 : q ≤ zs.length := by omega
  have q3 : q ≤ 120 := by omega
  have L1 : zs.length ≤ 400 := by omega
  have K1 : Hid (¬ (400 < zs.length ∨ (q : Int) < 1 ∨ (zs.length : Int) < (q : Int) ∨ 120 < (q : Int))) := Lib.hid (by omega)
  clear h1 h2 h3
  have hcase : (zs.length ≤ 120) ∨ ((120 : Int) < (zs.length : Int)) := by omega
  have HA : Hid (RowZ (w.alloc (.cells #[.slice a zs.length cap, .int .i64 q, .int .i64 inc] 26)) a zs.length cap zs) := Lib.hid (H.out.alloc _)
  have HBl : Hid (Below w.heap.size w (w.alloc (.cells #[.slice a zs.length cap, .int .i64 q, .int .i64 inc] 26))) := Lib.hid ((Below.refl _ _).alloc (Nat.le_refl _) _)
  cases hi1 : inB inc with
  | false =>
    have e : b = false := by rw [← HB.out]; unfold okC; rw [if_neg K1.out, if_pos hi1]
    subst e
    have HI := Lib.hid hi1
    clear hi1
    rcases hcase with hc | hc <;>
    · go_enter Try.func79, Try.ntmps79
      go_wp2_with fail
      refine (bounded_any inc _).mono ?_
      rintro e w1 ⟨rfl, rfl⟩
      rw [HI.out]
      go_wp2_with fail
      go_ret
      exact ⟨rfl, HBl.out⟩
  | true =>
  cases hb1 : badB zs with
  | true =>
    have e : b = false := by rw [← HB.out]; unfold okC; rw [if_neg K1.out, if_neg (by rw [hi1]; decide), if_pos hb1]
    subst e
    have HI := Lib.hid hi1
    have HX := Lib.hid hb1
    clear hi1 hb1
    rcases hcase with hc | hc <;>
    · go_enter Try.func79, Try.ntmps79
      go_wp2_with fail
      refine (bounded_any inc _).mono ?_
      rintro e w1 ⟨rfl, rfl⟩
      rw [HI.out]
      go_wp2_with fail
      refine (containsFunc_any a _ cap zs _ HA.out).mono ?_
      rintro e w1 ⟨rfl, rfl⟩
      rw [HX.out]
      go_wp2_with fail
      go_ret
      exact ⟨rfl, HBl.out⟩
  | false =>
  cases hs1 : sortedB zs with
  | false =>
    have e : b = false := by rw [← HB.out]; unfold okC; rw [if_neg K1.out, if_neg (by rw [hi1]; decide), if_neg (by rw [hb1]; decide), if_pos hs1]
    subst e
    have HI := Lib.hid hi1
    have HX := Lib.hid hb1
    have HS := Lib.hid hs1
    clear hi1 hb1 hs1
    rcases hcase with hc | hc <;>
    · go_enter Try.func79, Try.ntmps79
      go_wp2_with fail
      refine (bounded_any inc _).mono ?_
      rintro e w1 ⟨rfl, rfl⟩
      rw [HI.out]
      go_wp2_with fail
      refine (containsFunc_any a _ cap zs _ HA.out).mono ?_
      rintro e w1 ⟨rfl, rfl⟩
      rw [HX.out]
      go_wp2_with fail
      refine (isSorted_any a _ cap zs _ HA.out).mono ?_
      rintro e w1 ⟨rfl, m, rfl⟩
      rw [HS.out]
      go_wp2_with fail
      go_ret
      exact ⟨rfl, HBl.out.drewN _⟩
  | true =>
  have K2 : Hid (okC zs q inc = if zs.getD (zs.length - 1) 0 = infV then decide ((q : Int) = 1) && decide (inc = 0) else decide (zs.getD (zs.length - 1) 0 ≤ zs.getD (zs.length - (q : Int).toNat) 0 + inc)) := Lib.hid (by
    unfold okC; rw [if_neg K1.out, if_neg (by rw [hi1]; decide), if_neg (by rw [hb1]; decide), if_neg (by rw [hs1]; decide)])
  have G1 := Lib.hid (badB_false.1 hb1)
  have G2 := Lib.hid ((sortedB_iff zs).1 hs1)
  obtain ⟨i0, i1⟩ := (inB_iff inc).1 hi1
  have HI := Lib.hid hi1
  have HX := Lib.hid hb1
  have HS := Lib.hid hs1
  clear hi1 hb1 hs1
  obtain ⟨j, hj⟩ : ∃ j, zs.length = j + 1 := ⟨zs.length - 1, by omega⟩
  obtain ⟨x, rfl, cj⟩ := HA.out.cell j (by omega)
  obtain ⟨k, hk⟩ : ∃ k, zs.length = k + q := ⟨zs.length - q, by omega⟩
  obtain ⟨x', hx, ck⟩ := HA.out.cell k (by omega)
  obtain rfl : x = x' := Option.some.inj hx
  obtain ⟨l, hl⟩ : ∃ l, zs.getD j 0 = l := ⟨_, rfl⟩
  obtain ⟨v, hv⟩ : ∃ v, zs.getD k 0 = v := ⟨_, rfl⟩
  rw [hl] at cj
  rw [hv] at ck
  have bl := G1.out j (by omega)
  have bv := G1.out k (by omega)
  have bvl := mono_le G2.out (j - k) k (by omega)
  rw [show k + (j - k) = j by omega, hl, hv] at bvl
  rw [hl] at bl
  rw [hv] at bv
  have HK : Hid (okC zs q inc = if l = infV then decide ((q : Int) = 1) && decide (inc = 0) else decide (l ≤ v + inc)) := Lib.hid (by
    rw [K2.out, show zs.length - 1 = j by omega, hl, Int.toNat_natCast, show zs.length - q = k by omega, hv])
  have hw1 : IntKind.i64.wrap ((zs.length : Int) - 1) = j := by rw [hj, show (((j + 1 : Nat) : Int)) - 1 = (j : Int) by omega]; exact IntWalk.i64_in _ ⟨by omega, by omega⟩
  have hw2 : IntKind.i64.wrap ((zs.length : Int) - (q : Int)) = k := by rw [hk, show (((k + q : Nat) : Int)) - (q : Int) = (k : Int) by omega]; exact IntWalk.i64_in _ ⟨by omega, by omega⟩
  have hw3 : (0 : Int) ≤ (j : Int) := by omega
  have hw4 : (0 : Int) ≤ (k : Int) := by omega
  have hw5 : (j : Int) < (zs.length : Int) := by omega
  have hw6 : (k : Int) < (zs.length : Int) := by omega
  have hw7 : (zs.length : Int) - 1 = (j : Int) := by omega
  have hw8 : (zs.length : Int) - (q : Int) = (k : Int) := by omega
  have HC := Lib.hid (And.intro hcase (And.intro hj (And.intro hk (And.intro hl hv))))
  clear hcase hj hk hl hv K2 hx
  by_cases hinf : l = infV
  · have hinf' : (l == 4611686018427387904) = true := by simpa using hinf
    have e : b = (decide ((q : Int) = 1) && decide (inc = 0)) := by rw [← HB.out, HK.out, if_pos hinf]
    have HE := Lib.hid e
    have HF := Lib.hid hinf
    clear e hinf bl bv bvl
    have HW := Lib.hid (And.intro hw2 hw8)
    clear hw2 hw8
    by_cases hq : q = 1
    · have hq' : ((q : Int) == 1) = true := by simp [hq]
      by_cases hz : inc = 0
      · have hz' : (inc == 0) = true := by simpa using hz
        have e : b = true := by rw [HE.out, hq, hz]; rfl
        clear hq hz
        subst e
        rcases HC.out.1 with hc | hc <;>
        · go_enter Try.func79, Try.ntmps79
          go_wp2_with fail
          refine (bounded_any inc _).mono ?_
          rintro e w1 ⟨rfl, rfl⟩
          rw [HI.out]
          go_wp2_with fail
          refine (containsFunc_any (some x) _ cap zs _ HA.out).mono ?_
          rintro e w1 ⟨rfl, rfl⟩
          rw [HX.out]
          go_wp2_with fail
          refine (isSorted_any (some x) _ cap zs _ HA.out).mono ?_
          rintro e w1 ⟨rfl, m, rfl⟩
          rw [HS.out]
          go_wp2_with fail
          go_ret
          exact ⟨rfl, HBl.out.drewN _⟩
      · have hz' : (inc == 0) = false := by simpa using hz
        have e : b = false := by rw [HE.out, decide_eq_false hz, Bool.and_false]
        clear hq hz
        subst e
        rcases HC.out.1 with hc | hc <;>
        · go_enter Try.func79, Try.ntmps79
          go_wp2_with fail
          refine (bounded_any inc _).mono ?_
          rintro e w1 ⟨rfl, rfl⟩
          rw [HI.out]
          go_wp2_with fail
          refine (containsFunc_any (some x) _ cap zs _ HA.out).mono ?_
          rintro e w1 ⟨rfl, rfl⟩
          rw [HX.out]
          go_wp2_with fail
          refine (isSorted_any (some x) _ cap zs _ HA.out).mono ?_
          rintro e w1 ⟨rfl, m, rfl⟩
          rw [HS.out]
          go_wp2_with fail
          go_ret
          exact ⟨rfl, HBl.out.drewN _⟩
    · have hq' : ((q : Int) == 1) = false := by rw [beq_eq_false_iff_ne]; omega
      have e : b = false := by rw [HE.out, decide_eq_false (show ¬ (q : Int) = 1 by omega), Bool.false_and]
      clear hq
      subst e
      rcases HC.out.1 with hc | hc <;>
      · go_enter Try.func79, Try.ntmps79
        go_wp2_with fail
        refine (bounded_any inc _).mono ?_
        rintro e w1 ⟨rfl, rfl⟩
        rw [HI.out]
        go_wp2_with fail
        refine (containsFunc_any (some x) _ cap zs _ HA.out).mono ?_
        rintro e w1 ⟨rfl, rfl⟩
        rw [HX.out]
        go_wp2_with fail
        refine (isSorted_any (some x) _ cap zs _ HA.out).mono ?_
        rintro e w1 ⟨rfl, m, rfl⟩
        rw [HS.out]
        go_wp2_with fail
        go_ret
        exact ⟨rfl, HBl.out.drewN _⟩
  · have hinf' : (l == 4611686018427387904) = false := by simpa using hinf
    have e : b = decide (l ≤ v + inc) := by rw [← HB.out, HK.out, if_neg hinf]
    have HE := Lib.hid e
    have bv2 : 0 ≤ v ∧ v ≤ 1073741824 := by unfold infV at *; omega
    have hw9 : IntKind.i64.wrap (v + inc) = v + inc := IntWalk.i64_in _ ⟨by omega, by omega⟩
    clear e hinf bl bv bvl
    have bv3 := bv2.1
    have bv4 := bv2.2
    clear bv2
    rcases HC.out.1 with hc | hc <;>
    · go_enter Try.func79, Try.ntmps79
      go_wp2_with fail
      refine (bounded_any inc _).mono ?_
      rintro e w1 ⟨rfl, rfl⟩
      rw [HI.out]
      go_wp2_with fail
      refine (containsFunc_any (some x) _ cap zs _ HA.out).mono ?_
      rintro e w1 ⟨rfl, rfl⟩
      rw [HX.out]
      go_wp2_with fail
      refine (isSorted_any (some x) _ cap zs _ HA.out).mono ?_
      rintro e w1 ⟨rfl, m, rfl⟩
      rw [HS.out]
      go_wp2_with fail
      go_quiet (fail)
      go_wp2_with fail
      go_ret
      exact ⟨by rw [HE.out]; rfl, (HBl.out.drewN _).drewN _⟩

end Go.Proofs.Ytknimlpdpgpliaa
