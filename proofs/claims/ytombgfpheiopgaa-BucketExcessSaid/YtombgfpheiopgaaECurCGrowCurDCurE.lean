/- Contracts: the closure that gives a curve's values; curve.Value. By the verifier's side. -/
import Derived.Test.YtombgfpheiopgaaECurACurBCurV
import Derived.Deep.AppendLies
import Derived.WalkSpells
import Derived.Lib.LazyBuf
import Derived.Deep.LoopGhost
namespace Go.Proofs.Ytombgfpheiopgaa
open Go.RowKit
set_option linter.unusedSimpArgs false

/-- The closure's variables: the curve's box in block B, the number of Values behind it, and whether the last one is infinite. -/
structure Clos (w : World) (B : Nat) (a : Option Addr) (n cap : Nat) (zs : List Int) (p : Nat) (inc : Int) : Prop where
  f0 : w.cell? ⟨B, 0, none⟩ = some (.slice a n cap)
  f1 : w.cell? ⟨B, 1, none⟩ = some (.int .i64 p)
  f2 : w.cell? ⟨B, 2, none⟩ = some (.int .i64 inc)
  num : w.cell? ⟨B + 1, 0, none⟩ = some (.int .i64 n)
  inf : w.cell? ⟨B + 2, 0, none⟩ = some (.bool (decide (zs.getD (zs.length - 1) 0 = infV)))
  row : RowZ w a n cap zs
  good : Good zs p inc

theorem Clos.lt {w : World} {B : Nat} {a : Option Addr} {n cap : Nat} {zs : List Int} {p : Nat} {inc : Int} (h : Clos w B a n cap zs p inc) : B + 2 < w.heap.size := lt_of_cell h.inf
theorem Clos.under {w w' : World} {B : Nat} {a : Option Addr} {n cap : Nat} {zs : List Int} {p : Nat} {inc : Int} (h : Clos w B a n cap zs p inc) (hb : Below w.heap.size w w') : Clos w' B a n cap zs p inc :=
  ⟨(hb.cell (lt_of_cell h.f0)).trans h.f0, (hb.cell (lt_of_cell h.f1)).trans h.f1, (hb.cell (lt_of_cell h.f2)).trans h.f2, (hb.cell (lt_of_cell h.num)).trans h.num, (hb.cell (lt_of_cell h.inf)).trans h.inf, h.row.under hb, h.good⟩
theorem Clos.drewN {w : World} {B : Nat} {a : Option Addr} {n cap : Nat} {zs : List Int} {p : Nat} {inc : Int} (h : Clos w B a n cap zs p inc) (m : Nat) : Clos (w.drewN m) B a n cap zs p inc :=
  ⟨h.f0, h.f1, h.f2, h.num, h.inf, h.row.drewN m, h.good⟩

end Go.Proofs.Ytombgfpheiopgaa

namespace Go.Proofs.Ytombgfpheiopgaa
open Go.RowKit
set_option linter.unusedSimpArgs false

theorem info_int : (Try.prog.info? 3).map (fun i => (i.zero, i.size, i.bytes)) = some (some (.int .i64 0), 1, 8) := by kernel_rfl

/-- A row of numbers of the call's own reads as a list. -/
theorem rowZ_of_owns {w : World} {base n : Nat} {v : Value} {zs : List Int} (h : w.ownsRow base 3 1 v n (zs.map (Value.int .i64))) (hn : n ≤ 140737488355328) (hb : ∀ i, i < zs.length → In64 (zs.getD i 0)) :
    ∃ a cap, v = .slice a n cap ∧ RowZ w a n cap zs ∧ ∀ x, a = some x → base ≤ x.block := by
  obtain ⟨hl, hr⟩ := h
  rw [List.length_map, Nat.mul_one] at hl
  rcases hr with ⟨rfl, rfl⟩ | ⟨g, cap, cur, rfl, hbase, hg, hnc, hcm, hsz, htake⟩
  · exact ⟨none, 0, rfl, ⟨hl, Nat.le_refl _, Nat.zero_le _, Nat.zero_le _, fun i hi => absurd hi (Nat.not_lt_zero _), fun i hi => absurd hi (Nat.not_lt_zero _)⟩, fun x hx => by cases hx⟩
  · refine ⟨some ⟨g, 0, none⟩, cap, rfl, ⟨hl, hnc, hn, by unfold maxLen at hcm; omega, fun i hi => ⟨_, rfl, ?_⟩, fun i hi => hb i (by omega)⟩, fun x hx => by cases hx; exact hbase⟩
    have hi' : i < zs.length := by omega
    have e1 : (zs.map (Value.int .i64))[i]? = some (.int .i64 (zs.getD i 0)) := by simp [List.getD, hi']
    rw [← htake, List.getElem?_take] at e1
    rw [if_pos (by omega)] at e1
    have e2 : cur[i]? = some (.int .i64 (zs.getD i 0)) := by simpa using e1
    have ea : ((⟨g, 0, none⟩ : Addr).add i) = ⟨g, i, none⟩ := by unfold Addr.add; split <;> simp_all
    rw [ea]
    simp [World.cell?, hg, e2]

theorem Apart.grown {b : Nat} {u v w : World} (h : Apart b u v) {row : Option Nat} (hg : v.grownBy w row) (hr : ∀ j, row = some j → u.heap.size ≤ j) : Apart b u w :=
  ⟨hg.os.trans h.os, hg.tape.trans h.tape, hg.output.trans h.output, Nat.le_trans h.size hg.size, fun k hk hb => (hg.block k (Nat.lt_of_lt_of_le hk h.size) (fun e => by have := hr k e.symm; omega)).trans (h.block k hk hb)⟩

theorem owns_apart {w w' : World} {b base : Nat} {v : Value} {k : Nat} {xs : List Value} (h : w.ownsRow base 3 1 v k xs) (ha : Apart b w w') (hb : b < base) : w'.ownsRow base 3 1 v k xs := by
  obtain ⟨hl, hr⟩ := h
  refine ⟨hl, ?_⟩
  rcases hr with h0 | ⟨g, cap, cur, hv, hbase, hg, h1, h2, h3, h4⟩
  · exact .inl h0
  · have hlt : g < w.heap.size := by
      rcases Nat.lt_or_ge g w.heap.size with h' | h'
      · exact h'
      · simp [Array.getElem?_eq_none h'] at hg
    exact .inr ⟨g, cap, cur, hv, hbase, (ha.block g hlt (by omega)).trans hg, h1, h2, h3, h4⟩
theorem Cur3.grown {w w' : World} {b : Nat} {x0 x1 x2 : Value} (h : Cur3 w b x0 x1 x2) {row : Option Nat} (hg : w.grownBy w' row) (hr : ∀ j, row = some j → b < j) : Cur3 w' b x0 x1 x2 := by
  have hb : w'.heap[b]? = w.heap[b]? := hg.block b h.lt (fun e => by have := hr b e.symm; omega)
  exact ⟨(World.cell?_of_block (w := w) (a := ⟨b, 0, none⟩) hb).trans h.c0, (World.cell?_of_block (w := w) (a := ⟨b, 1, none⟩) hb).trans h.c1, (World.cell?_of_block (w := w) (a := ⟨b, 2, none⟩) hb).trans h.c2,
    (World.frozen?_of_block (w := w) (a := ⟨b, 0, none⟩) hb).trans h.f0, (World.frozen?_of_block (w := w) (a := ⟨b, 1, none⟩) hb).trans h.f1, (World.frozen?_of_block (w := w) (a := ⟨b, 2, none⟩) hb).trans h.f2⟩

end Go.Proofs.Ytombgfpheiopgaa

namespace Go.Proofs.Ytombgfpheiopgaa
open Go.RowKit
set_option linter.unusedSimpArgs false

theorem Clos.dr {w w' : World} {B : Nat} {a : Option Addr} {n cap : Nat} {zs : List Int} {p : Nat} {inc : Int} (h : Clos w B a n cap zs p inc) (hd : ∃ m, w' = w.drewN m) : Clos w' B a n cap zs p inc := by
  obtain ⟨m, rfl⟩ := hd; exact h.drewN m
theorem dr_trans {u v w : World} (h : ∃ m, v = u.drewN m) (k : ∃ m, w = v.drewN m) : ∃ m, w = u.drewN m := by
  obtain ⟨m, rfl⟩ := h; obtain ⟨q, rfl⟩ := k; exact ⟨m + q, World.drewN_drewN _ _ _⟩

/-- What the search for the least period hands back. -/
def LeastP (f : Nat → Int) (s P : Nat) (w : World) (e : Ending) (w' : World) : Prop :=
  ∃ r : Nat, 1 ≤ r ∧ r ≤ P ∧ (r < P → GrowsAt f s P r) ∧ (∀ q, 1 ≤ q → q < r → ¬ GrowsAt f s P q) ∧ e = .returned (.int .i64 r) ∧ ∃ m, w' = w.drewN m

end Go.Proofs.Ytombgfpheiopgaa

namespace Go.Proofs.Ytombgfpheiopgaa
open Go.RowKit
set_option linter.unusedSimpArgs false

theorem RowZ.take {w : World} {a : Option Addr} {n cap : Nat} {zs : List Int} (h : RowZ w a n cap zs) (m : Nat) (hm : m ≤ n) : RowZ w a m cap (zs.take m) := by
  have hl := h.len
  have hle := h.le
  have hsm := h.sm
  refine ⟨by rw [List.length_take]; omega, by omega, by omega, h.cm, fun i hi => ?_, fun i hi => ?_⟩
  · rw [getD_take hi]; exact h.cell i (by omega)
  · rw [getD_take hi]; exact h.bd i (by omega)

end Go.Proofs.Ytombgfpheiopgaa
