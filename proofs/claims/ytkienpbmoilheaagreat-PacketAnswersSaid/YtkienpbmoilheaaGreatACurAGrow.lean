/- Contracts beneath curve.Valid: a list that a slice reads; bounded, outOfRange, slices.ContainsFunc, slices.IsSorted at numbers. By the verifier's side. -/
import Derived.Test.YtkienpbmoilheaaGreatABaseApartPickKeepS
import Derived.Test.YtkienpbmoilheaaGreatACurMToDecM
import Derived.Deep.AppendLies
import Derived.WalkSpells
namespace Go.Proofs.YtkienpbmoilheaaGreat
open Go.RowKit
set_option linter.unusedSimpArgs false

/-- The slice (a, n, cap) reads zs. -/
structure RowZ (w : World) (a : Option Addr) (n cap : Nat) (zs : List Int) : Prop where
  len : zs.length = n
  le : n ≤ cap
  sm : n ≤ 140737488355328
  cm : cap ≤ 9223372036854775807
  cell : ∀ i, i < n → ∃ x, a = some x ∧ w.cell? (x.add i) = some (.int .i64 (zs.getD i 0))
  bd : ∀ i, i < n → In64 (zs.getD i 0)

theorem RowZ.under {w w' : World} {a : Option Addr} {n cap : Nat} {zs : List Int} (h : RowZ w a n cap zs) (hb : Below w.heap.size w w') : RowZ w' a n cap zs :=
  ⟨h.len, h.le, h.sm, h.cm, fun i hi => by obtain ⟨x, h1, h2⟩ := h.cell i hi; exact ⟨x, h1, (hb.cell (lt_of_cell h2)).trans h2⟩, h.bd⟩
theorem RowZ.drewN {w : World} {a : Option Addr} {n cap : Nat} {zs : List Int} (h : RowZ w a n cap zs) (m : Nat) : RowZ (w.drewN m) a n cap zs := ⟨h.len, h.le, h.sm, h.cm, h.cell, h.bd⟩
theorem RowZ.alloc {w : World} {a : Option Addr} {n cap : Nat} {zs : List Int} (h : RowZ w a n cap zs) (o : Obj) : RowZ (w.alloc o) a n cap zs := h.under ((Below.refl _ _).alloc (Nat.le_refl _) _)
/-- The cell of an index, with the slice's address written out. -/
theorem RowZ.at {w : World} {a : Option Addr} {n cap : Nat} {zs : List Int} (h : RowZ w a n cap zs) (i : Nat) (hi : i < n) : ∃ x, a = some x ∧ w.cell? (x.add i) = some (.int .i64 (zs.getD i 0)) := h.cell i hi

theorem RowZ.cellS {w : World} {a : Option Addr} {n cap : Nat} {zs : List Int} (h : RowZ w a n cap zs) (j : Nat) (hj : j + 1 < n) :
    ∃ x, a = some x ∧ w.cell? ⟨x.block, x.off + (j + 1), none⟩ = some (.int .i64 (zs.getD (j + 1) 0)) ∧ w.cell? (x.add j) = some (.int .i64 (zs.getD j 0)) := by
  obtain ⟨x, h1, h2⟩ := h.cell (j + 1) hj
  obtain ⟨x', h3, h4⟩ := h.cell j (by omega)
  obtain rfl : x = x' := Option.some.inj (h1.symm.trans h3)
  exact ⟨x, h1, h2, h4⟩

/-- Block b holds three values (a curve's slice, period and increment), and may be written. -/
structure Cur3 (w : World) (b : Nat) (x0 x1 x2 : Value) : Prop where
  c0 : w.cell? ⟨b, 0, none⟩ = some x0
  c1 : w.cell? ⟨b, 1, none⟩ = some x1
  c2 : w.cell? ⟨b, 2, none⟩ = some x2
  f0 : w.frozen? ⟨b, 0, none⟩ = false
  f1 : w.frozen? ⟨b, 1, none⟩ = false
  f2 : w.frozen? ⟨b, 2, none⟩ = false

theorem Cur3.lt {w : World} {b : Nat} {x0 x1 x2 : Value} (h : Cur3 w b x0 x1 x2) : b < w.heap.size := lt_of_cell h.c0
theorem Cur3.below {w w' : World} {b : Nat} {x0 x1 x2 : Value} (h : Cur3 w b x0 x1 x2) (hb : Below w.heap.size w w') : Cur3 w' b x0 x1 x2 :=
  ⟨(hb.cell (p := ⟨b, 0, none⟩) h.lt).trans h.c0, (hb.cell (p := ⟨b, 1, none⟩) h.lt).trans h.c1, (hb.cell (p := ⟨b, 2, none⟩) h.lt).trans h.c2,
    (hb.frozen (p := ⟨b, 0, none⟩) h.lt).trans h.f0, (hb.frozen (p := ⟨b, 1, none⟩) h.lt).trans h.f1, (hb.frozen (p := ⟨b, 2, none⟩) h.lt).trans h.f2⟩
theorem Cur3.apart {w w' : World} {b q : Nat} {x0 x1 x2 : Value} (h : Cur3 w b x0 x1 x2) (ha : Apart q w w') (hq : b ≠ q) : Cur3 w' b x0 x1 x2 := by
  obtain ⟨h1, h2⟩ := acell ha
  exact ⟨(h1 b 0 h.lt hq).trans h.c0, (h1 b 1 h.lt hq).trans h.c1, (h1 b 2 h.lt hq).trans h.c2, (h2 b 0 h.lt hq).trans h.f0, (h2 b 1 h.lt hq).trans h.f1, (h2 b 2 h.lt hq).trans h.f2⟩
theorem Cur3.alloc {w : World} {b : Nat} {x0 x1 x2 : Value} (h : Cur3 w b x0 x1 x2) (o : Obj) : Cur3 (w.alloc o) b x0 x1 x2 := h.below ((Below.refl _ _).alloc (Nat.le_refl _) o)
theorem Cur3.drewN {w : World} {b : Nat} {x0 x1 x2 : Value} (h : Cur3 w b x0 x1 x2) (n : Nat) : Cur3 (w.drewN n) b x0 x1 x2 := ⟨h.c0, h.c1, h.c2, h.f0, h.f1, h.f2⟩
theorem Cur3.new (w : World) (x0 x1 x2 : Value) (t : TypeId) : Cur3 (w.alloc (.cells #[x0, x1, x2] t)) w.heap.size x0 x1 x2 :=
  ⟨by go_simp, by go_simp, by go_simp, by go_simp, by go_simp, by go_simp⟩
theorem Cur3.new2 (w : World) (x0 x1 x2 : Value) (t : TypeId) (o : Obj) : Cur3 ((w.alloc o).alloc (.cells #[x0, x1, x2] t)) (w.heap.size + 1) x0 x1 x2 := by
  have := Cur3.new (w.alloc o) x0 x1 x2 t
  rwa [show (w.alloc o).heap.size = w.heap.size + 1 by simp] at this
theorem Cur3.other {w : World} {b q : Nat} {x0 x1 x2 : Value} (h : Cur3 w b x0 x1 x2) (hq : b ≠ q) (i : Nat) (v : Value) : Cur3 (w.setCell ⟨q, i, none⟩ v) b x0 x1 x2 := by
  have hb : (w.setCell ⟨q, i, none⟩ v).heap[b]? = w.heap[b]? := Below.heap_setCell _ _ _ _ hq
  exact ⟨(World.cell?_of_block (w := w) (a := ⟨b, 0, none⟩) hb).trans h.c0, (World.cell?_of_block (w := w) (a := ⟨b, 1, none⟩) hb).trans h.c1, (World.cell?_of_block (w := w) (a := ⟨b, 2, none⟩) hb).trans h.c2,
    (World.frozen?_of_block (w := w) (a := ⟨b, 0, none⟩) hb).trans h.f0, (World.frozen?_of_block (w := w) (a := ⟨b, 1, none⟩) hb).trans h.f1, (World.frozen?_of_block (w := w) (a := ⟨b, 2, none⟩) hb).trans h.f2⟩
theorem Cur3.set {w : World} {b : Nat} {x0 x1 x2 : Value} (h : Cur3 w b x0 x1 x2) (y0 y1 y2 : Value) : Cur3 (((w.setCell ⟨b, 0, none⟩ y0).setCell ⟨b, 1, none⟩ y1).setCell ⟨b, 2, none⟩ y2) b y0 y1 y2 := by
  obtain ⟨c0, c1, c2, f0, f1, f2⟩ := h
  exact ⟨by go_simp, by go_simp, by go_simp, by go_simp, by go_simp, by go_simp⟩
theorem Cur3.set0 {w : World} {b : Nat} {x0 x1 x2 : Value} (h : Cur3 w b x0 x1 x2) (y0 : Value) : Cur3 (w.setCell ⟨b, 0, none⟩ y0) b y0 x1 x2 := by
  obtain ⟨c0, c1, c2, f0, f1, f2⟩ := h
  exact ⟨by go_simp, by go_simp, by go_simp, by go_simp, by go_simp, by go_simp⟩
theorem Cur3.set2 {w : World} {b : Nat} {x0 x1 x2 : Value} (h : Cur3 w b x0 x1 x2) (y2 : Value) : Cur3 (w.setCell ⟨b, 2, none⟩ y2) b x0 x1 y2 := by
  obtain ⟨c0, c1, c2, f0, f1, f2⟩ := h
  exact ⟨by go_simp, by go_simp, by go_simp, by go_simp, by go_simp, by go_simp⟩
theorem below_set3 {B : Nat} {u w : World} {b : Nat} (h : Below B u w) (hb : B ≤ b) (y0 y1 y2 : Value) : Below B u (((w.setCell ⟨b, 0, none⟩ y0).setCell ⟨b, 1, none⟩ y1).setCell ⟨b, 2, none⟩ y2) :=
  ((h.setCell (p := ⟨b, 0, none⟩) hb _).setCell (p := ⟨b, 1, none⟩) hb _).setCell (p := ⟨b, 2, none⟩) hb _
/-- A reading of a list behind stores into another block. -/
theorem RowZ.store {w : World} {a : Option Addr} {n cap : Nat} {zs : List Int} (h : RowZ w a n cap zs) {q : Nat} (hq : ∀ x, a = some x → 1 ≤ n → x.block ≠ q) (i : Nat) (v : Value) : RowZ (w.setCell ⟨q, i, none⟩ v) a n cap zs :=
  ⟨h.len, h.le, h.sm, h.cm, fun j hj => by
    obtain ⟨x, h1, h2⟩ := h.cell j hj
    refine ⟨x, h1, (World.cell?_of_block (w := w) (a := x.add j) (Below.heap_setCell _ _ _ _ ?_)).trans h2⟩
    rw [add_block]; exact hq x h1 (by omega), h.bd⟩

def inB (v : Int) : Bool := decide (0 ≤ v) && decide (v ≤ 1073741824)
def outB (v : Int) : Bool := !(inB v) && !(v == 4611686018427387904)

set_option maxHeartbeats 400000 in
theorem bounded_any (v : Int) (w : World) : Calls Tryz.prog 49 #[.int .i64 v] w fun e w' => e = .returned (.bool (inB v)) ∧ w = w' := by
  unfold inB
  by_cases h1 : 0 ≤ v
  · by_cases h2 : v ≤ 1073741824
    · go_enter Tryz.func49, Tryz.ntmps49
      go_wp2
      go_ret
      exact ⟨by simp [h1, h2], rfl⟩
    · go_enter Tryz.func49, Tryz.ntmps49
      go_wp2
      go_ret
      exact ⟨by simp [h1, h2], rfl⟩
  · go_enter Tryz.func49, Tryz.ntmps49
    go_wp2
    go_ret
    exact ⟨by rw [decide_eq_false (show ¬ 0 ≤ v by omega), Bool.false_and]; rfl, rfl⟩

set_option maxHeartbeats 400000 in
theorem outOfRange_any (v : Int) (w : World) : Calls Tryz.prog 51 #[.int .i64 v] w fun e w' => e = .returned (.bool (outB v)) ∧ w = w' := by
  unfold outB
  cases hb : inB v with
  | true =>
    have HB := Lib.hid hb
    clear hb
    go_enter Tryz.func51, Tryz.ntmps51
    go_wp2_with fail
    refine (bounded_any v _).mono ?_
    rintro e w1 ⟨rfl, rfl⟩
    rw [HB.out]
    go_wp2_with fail
    go_ret
    exact ⟨rfl, rfl⟩
  | false =>
    have HB := Lib.hid hb
    clear hb
    by_cases he : v = 4611686018427387904
    · have he' : (v != 4611686018427387904) = false := by simpa using he
      have HE := Lib.hid he
      clear he
      go_enter Tryz.func51, Tryz.ntmps51
      go_wp2_with fail
      refine (bounded_any v _).mono ?_
      rintro e w1 ⟨rfl, rfl⟩
      rw [HB.out]
      go_wp2_with fail
      go_ret
      exact ⟨by simp [HE.out], rfl⟩
    · have he' : (v != 4611686018427387904) = true := by simpa using he
      have HE := Lib.hid he
      clear he
      go_enter Tryz.func51, Tryz.ntmps51
      go_wp2_with fail
      refine (bounded_any v _).mono ?_
      rintro e w1 ⟨rfl, rfl⟩
      rw [HB.out]
      go_wp2_with fail
      go_ret
      exact ⟨by simp [HE.out], rfl⟩

/-- Some number of the list is out of range. -/
def badB (zs : List Int) : Bool := zs.any outB

theorem badB_of {zs : List Int} {i : Nat} (hi : i < zs.length) (h : outB (zs.getD i 0) = true) : badB zs = true := by
  unfold badB; rw [List.any_eq_true]
  refine ⟨zs.getD i 0, ?_, h⟩
  have : zs.getD i 0 = zs[i] := by simp [List.getD, List.getElem?_eq_getElem hi]
  rw [this]; exact List.getElem_mem hi
theorem badB_not {zs : List Int} (h : ∀ i, i < zs.length → outB (zs.getD i 0) = false) : badB zs = false := by
  unfold badB; rw [List.any_eq_false]
  intro x hx
  obtain ⟨i, hi, rfl⟩ := List.mem_iff_getElem.1 hx
  have := h i hi
  have e : zs.getD i 0 = zs[i] := by simp [List.getD, List.getElem?_eq_getElem hi]
  rw [e] at this; simp [this]

/-- A number is handed back that is negative exactly if nothing was found. -/
def Found (b : Bool) (w : World) (e : Ending) (w' : World) : Prop := ∃ r : Int, -1 ≤ r ∧ r ≤ 140737488355328 ∧ decide (0 ≤ r) = b ∧ e = .returned (.int .i64 r) ∧ w = w'

set_option maxHeartbeats 800000 in
theorem indexFunc_any (a : Option Addr) (n cap : Nat) (zs : List Int) (w : World) (h : RowZ w a n cap zs) :
    Calls Tryz.prog 73 #[.slice a n cap, .func (.func 51) #[] #[]] w (Found (badB zs) w) := by
  have H := Lib.hid h
  have hn : n ≤ 140737488355328 := h.sm
  clear h
  go_enter Tryz.func73, Tryz.ntmps73
  go_wp2
  go_loop [8] (fun vi => ∃ k : Nat, vi = .int .i64 k ∧ k ≤ n ∧ Hid (∀ i, i < k → outB (zs.getD i 0) = false)) (fun vi => n - (intOf vi).toNat)
  case atStart => exact ⟨0, rfl, Nat.zero_le _, fun i hi => absurd hi (Nat.not_lt_zero _)⟩
  case round =>
    obtain ⟨k, rfl, hk, hall⟩ := hrel
    by_cases hlt : k < n
    · obtain ⟨x, rfl, hc⟩ := H.out.cell k hlt
      obtain ⟨z, hz⟩ : ∃ z, zs.getD k 0 = z := ⟨_, rfl⟩
      rw [hz] at hc
      have HZ := Lib.hid hz
      clear hz
      cases hb : outB z with
      | true =>
        have HB := Lib.hid hb
        clear hb
        go_wp2_with fail
        refine (outOfRange_any z _).mono ?_
        rintro e w1 ⟨rfl, rfl⟩
        rw [HB.out]
        go_wp2_with fail
        go_ret
        exact ⟨k, by omega, by omega, by rw [badB_of (by rw [H.out.len]; exact hlt) (by rw [HZ.out]; exact HB.out)]; simp, rfl, rfl⟩
      | false =>
        have HB := Lib.hid hb
        clear hb
        go_wp2_with fail
        refine (outOfRange_any z _).mono ?_
        rintro e w1 ⟨rfl, rfl⟩
        rw [HB.out]
        go_wp2_with fail
        go_round
        case rel =>
          refine ⟨k + 1, by go_num, by omega, fun i hi => ?_⟩
          by_cases he : i = k
          · subst he; rw [HZ.out]; exact HB.out
          · exact hall.out i (by omega)
        case measure => simp [intOf]; omega
    · obtain rfl : k = n := by omega
      go_wp2_with fail
      go_ret
      exact ⟨-1, by omega, by omega, by rw [badB_not (fun i hi => hall.out i (by rw [H.out.len] at hi; exact hi))]; simp, rfl, rfl⟩

set_option maxHeartbeats 400000 in
theorem containsFunc_any (a : Option Addr) (n cap : Nat) (zs : List Int) (w : World) (h : RowZ w a n cap zs) :
    Calls Tryz.prog 50 #[.slice a n cap, .func (.func 51) #[] #[]] w fun e w' => e = .returned (.bool (badB zs)) ∧ w = w' := by
  have H := Lib.hid h
  clear h
  generalize hb : badB zs = b
  have HB := Lib.hid hb
  clear hb
  go_enter Tryz.func50, Tryz.ntmps50
  go_wp2_with fail
  refine (indexFunc_any a n cap zs _ H.out).mono ?_
  rintro e w1 ⟨r, h1, h2, h3, rfl, rfl⟩
  rw [HB.out] at h3
  subst h3
  go_wp2_with fail
  go_ret
  exact ⟨rfl, rfl⟩

set_option maxHeartbeats 400000 in
theorem isNaN_any (v : Int) (w : World) : Calls Tryz.prog 91 #[.int .i64 v] w fun e w' => e = .returned (.bool false) ∧ w = w' := by
  go_enter Tryz.func91, Tryz.ntmps91
  go_wp2
  go_ret
  exact ⟨by simp, rfl⟩

set_option maxHeartbeats 400000 in
theorem less_any (x y : Int) (w : World) : Calls Tryz.prog 74 #[.int .i64 x, .int .i64 y] w fun e w' => e = .returned (.bool (decide (x < y))) ∧ w = w' := by
  go_enter Tryz.func74, Tryz.ntmps74
  go_wp2_with fail
  refine (isNaN_any x _).mono ?_
  rintro e w1 ⟨rfl, rfl⟩
  go_wp2_with fail
  go_ret
  exact ⟨by simp, rfl⟩

/-- The list does not decrease. -/
def sortedB (zs : List Int) : Bool := (List.range (zs.length - 1)).all fun i => decide (zs.getD i 0 ≤ zs.getD (i + 1) 0)

theorem sortedB_iff (zs : List Int) : sortedB zs = true ↔ ∀ i, i + 1 < zs.length → zs.getD i 0 ≤ zs.getD (i + 1) 0 := by
  unfold sortedB
  rw [List.all_eq_true]
  constructor
  · intro h i hi
    have := h i (List.mem_range.2 (by omega))
    simpa using this
  · intro h i hi
    have := h i (by have := List.mem_range.1 hi; omega)
    simpa using this

end Go.Proofs.YtkienpbmoilheaaGreat

namespace Go.Proofs.YtkienpbmoilheaaGreat
open Go.RowKit
set_option linter.unusedSimpArgs false

theorem info_int : (Tryz.prog.info? 3).map (fun i => (i.zero, i.size, i.bytes)) = some (some (.int .i64 0), 1, 8) := by kernel_rfl

/-- A row of numbers of the call's own reads as a list. -/
theorem rowZ_of_owns {w : World} {base n : Nat} {v : Value} {zs : List Int} (h : w.ownsRow base 3 1 v n (zs.map (Value.int .i64))) (hn : n ≤ 140737488355328) (hb : ∀ i, i < zs.length → In64 (zs.getD i 0)) :
    ∃ a cap, v = .slice a n cap ∧ RowZ w a n cap zs ∧ ∀ x, a = some x → base ≤ x.block := by
  obtain ⟨hl, hr⟩ := h
  rw [List.length_map, Nat.mul_one] at hl
  rcases hr with ⟨rfl, rfl⟩ | ⟨g, cap, cur, rfl, hbase, hg, hnc, hcm, hsz, htake⟩
  · exact ⟨none, 0, rfl, ⟨hl, Nat.le_refl _, Nat.zero_le _, Nat.zero_le _, fun i hi => absurd hi (Nat.not_lt_zero _), fun i hi => absurd hi (Nat.not_lt_zero _)⟩, fun x hx => by cases hx⟩
  · refine ⟨some ⟨g, 0, none⟩, cap, rfl, ⟨hl, hnc, hn, by unfold maxLen at hcm; omega, fun i hi => ⟨_, rfl, ?_⟩, fun i hi => hb i (by omega)⟩, fun x hx => by cases hx; exact hbase⟩
    have hi' : i < zs.length := by omega
    have e1 : (zs.map (Value.int .i64))[i]? = some (.int .i64 (zs.getD i 0)) := by simp [List.getD, hi']
    rw [← htake, List.getElem?_take] at e1
    rw [if_pos (by omega)] at e1
    have e2 : cur[i]? = some (.int .i64 (zs.getD i 0)) := by simpa using e1
    have ea : ((⟨g, 0, none⟩ : Addr).add i) = ⟨g, i, none⟩ := by unfold Addr.add; split <;> simp_all
    rw [ea]
    simp [World.cell?, hg, e2]

theorem Apart.grown {b : Nat} {u v w : World} (h : Apart b u v) {row : Option Nat} (hg : v.grownBy w row) (hr : ∀ j, row = some j → u.heap.size ≤ j) : Apart b u w :=
  ⟨hg.os.trans h.os, hg.tape.trans h.tape, hg.output.trans h.output, Nat.le_trans h.size hg.size, fun k hk hb => (hg.block k (Nat.lt_of_lt_of_le hk h.size) (fun e => by have := hr k e.symm; omega)).trans (h.block k hk hb)⟩

theorem owns_apart {w w' : World} {b base : Nat} {v : Value} {k : Nat} {xs : List Value} (h : w.ownsRow base 3 1 v k xs) (ha : Apart b w w') (hb : b < base) : w'.ownsRow base 3 1 v k xs := by
  obtain ⟨hl, hr⟩ := h
  refine ⟨hl, ?_⟩
  rcases hr with h0 | ⟨g, cap, cur, hv, hbase, hg, h1, h2, h3, h4⟩
  · exact .inl h0
  · have hlt : g < w.heap.size := by
      rcases Nat.lt_or_ge g w.heap.size with h' | h'
      · exact h'
      · simp [Array.getElem?_eq_none h'] at hg
    exact .inr ⟨g, cap, cur, hv, hbase, (ha.block g hlt (by omega)).trans hg, h1, h2, h3, h4⟩
theorem owns_set {w : World} {base : Nat} {v : Value} {k : Nat} {xs : List Value} (h : w.ownsRow base 3 1 v k xs) {p : Addr} (hp : p.block < base) (x : Value) : (w.setCell p x).ownsRow base 3 1 v k xs := by
  obtain ⟨hl, hr⟩ := h
  refine ⟨hl, ?_⟩
  rcases hr with h0 | ⟨g, cap, cur, hv, hbase, hg, h1, h2, h3, h4⟩
  · exact .inl h0
  · exact .inr ⟨g, cap, cur, hv, hbase, (Below.heap_setCell _ _ _ _ (by omega)).trans hg, h1, h2, h3, h4⟩
theorem Cur3.grown {w w' : World} {b : Nat} {x0 x1 x2 : Value} (h : Cur3 w b x0 x1 x2) {row : Option Nat} (hg : w.grownBy w' row) (hr : ∀ j, row = some j → b < j) : Cur3 w' b x0 x1 x2 := by
  have hb : w'.heap[b]? = w.heap[b]? := hg.block b h.lt (fun e => by have := hr b e.symm; omega)
  exact ⟨(World.cell?_of_block (w := w) (a := ⟨b, 0, none⟩) hb).trans h.c0, (World.cell?_of_block (w := w) (a := ⟨b, 1, none⟩) hb).trans h.c1, (World.cell?_of_block (w := w) (a := ⟨b, 2, none⟩) hb).trans h.c2,
    (World.frozen?_of_block (w := w) (a := ⟨b, 0, none⟩) hb).trans h.f0, (World.frozen?_of_block (w := w) (a := ⟨b, 1, none⟩) hb).trans h.f1, (World.frozen?_of_block (w := w) (a := ⟨b, 2, none⟩) hb).trans h.f2⟩

end Go.Proofs.YtkienpbmoilheaaGreat
