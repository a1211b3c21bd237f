/- The walk of CurveAnswers. By the verifier's side. -/
import Derived.Test.YtkienpbmoilheaaGreatABentE
import Derived.Test.YtkienpbmoilheaaGreatARefU
namespace Go.Proofs.YtkienpbmoilheaaGreat
open Go.RowKit
set_option linter.unusedSimpArgs false

/-- A curve that stands in a world, none of its cells in the reader's block. -/
structure CurIn (w : World) (b : Nat) (a : Option Addr) (n cap : Nat) (zs : List Int) (p inc : Int) : Prop where
  row : RowZ w a n cap zs
  ip : In64 p
  ii : In64 inc
  far : 1 ≤ n → ∀ x, a = some x → ¬ x.block = b
theorem RowZ.apart2 {w w' : World} {a : Option Addr} {n cap b : Nat} {zs : List Int} (h : RowZ w a n cap zs) (ha : Apart b w w') (hx : 1 ≤ n → ∀ x, a = some x → ¬ x.block = b) : RowZ w' a n cap zs := by
  rcases Nat.eq_zero_or_pos n with rfl | hn
  · exact ⟨h.len, h.le, h.sm, h.cm, fun i hi => absurd hi (Nat.not_lt_zero _), fun i hi => absurd hi (Nat.not_lt_zero _)⟩
  · exact h.apart ha (hx hn)
/-- What stands below a block that is made later is not in it. -/
theorem CurIn.old {w : World} {a : Option Addr} {n cap : Nat} {zs : List Int} {p inc : Int} (h : RowZ w a n cap zs) (hp : In64 p) (hi : In64 inc) {b : Nat} (hb : w.heap.size ≤ b) : CurIn w b a n cap zs p inc :=
  ⟨h, hp, hi, fun hn x hx => by have := row_lt h hn x hx; omega⟩
section
variable {w u : World} {b : Nat} {a : Option Addr} {n cap : Nat} {zs : List Int} {p inc : Int}
theorem CurIn.apart (h : CurIn w b a n cap zs p inc) (ha : Apart b w u) : CurIn u b a n cap zs p inc := ⟨h.row.apart2 ha h.far, h.ip, h.ii, h.far⟩
theorem CurIn.below (h : CurIn w b a n cap zs p inc) (hb : Below w.heap.size w u) : CurIn u b a n cap zs p inc := ⟨h.row.under hb, h.ip, h.ii, h.far⟩
end

/-- A list of curves in one block. -/
def Curs (w : World) (b B N : Nat) : Prop :=
  ∀ k, k < N → ∃ (a : Option Addr) (n cap : Nat) (zs : List Int) (p inc : Int), CurIn w b a n cap zs p inc ∧ w.cell? ⟨B, k * 3, none⟩ = some (.slice a n cap) ∧ w.cell? ⟨B, k * 3 + 1, none⟩ = some (.int .i64 p) ∧ w.cell? ⟨B, k * 3 + 2, none⟩ = some (.int .i64 inc)
theorem Curs.apart {w u : World} {b B N : Nat} (h : Curs w b B N) (ha : Apart b w u) (hB : ¬ B = b) : Curs u b B N := fun k hk => by
  obtain ⟨a, n, cap, zs, p, inc, h1, h2, h3, h4⟩ := h k hk
  exact ⟨a, n, cap, zs, p, inc, h1.apart ha, (World.cell?_of_block (ha.block _ (lt_of_cell h2) hB)).trans h2, (World.cell?_of_block (ha.block _ (lt_of_cell h3) hB)).trans h3, (World.cell?_of_block (ha.block _ (lt_of_cell h4) hB)).trans h4⟩

/-- Four boxes' cells, and the reader. -/
abbrev S4 (w6 : World) (b : Nat) (ra : Option Addr) (rn rc : Nat) (F1 : Nat) (x0 x1 x2 : Value) (F2 : Nat) (y0 y1 y2 : Value) (F3 : Nat) (z0 z1 z2 : Value) (F4 : Nat) (v0 v1 v2 : Value) (u : World) : Prop :=
  u.cell? ⟨F1, 0, none⟩ = some x0 ∧ u.cell? ⟨F1, 1, none⟩ = some x1 ∧ u.cell? ⟨F1, 2, none⟩ = some x2 ∧ u.cell? ⟨F2, 0, none⟩ = some y0 ∧ u.cell? ⟨F2, 1, none⟩ = some y1 ∧ u.cell? ⟨F2, 2, none⟩ = some y2 ∧
  u.cell? ⟨F3, 0, none⟩ = some z0 ∧ u.cell? ⟨F3, 1, none⟩ = some z1 ∧ u.cell? ⟨F3, 2, none⟩ = some z2 ∧ u.cell? ⟨F4, 0, none⟩ = some v0 ∧ u.cell? ⟨F4, 1, none⟩ = some v1 ∧ u.cell? ⟨F4, 2, none⟩ = some v2 ∧ Hid (Held w6 b ra rn rc u)
section
variable {w6 u v : World} {b : Nat} {ra : Option Addr} {rn rc : Nat} {F1 : Nat} {x0 x1 x2 : Value} {F2 : Nat} {y0 y1 y2 : Value} {F3 : Nat} {z0 z1 z2 : Value} {F4 : Nat} {v0 v1 v2 : Value}
theorem s4_mk (h1 : Cur3 w6 F1 x0 x1 x2) (h2 : Cur3 w6 F2 y0 y1 y2) (h3 : Cur3 w6 F3 z0 z1 z2) (h4 : Cur3 w6 F4 v0 v1 v2) (k1 : ¬ F1 = b) (k2 : ¬ F2 = b) (k3 : ¬ F3 = b) (k4 : ¬ F4 = b) (h : Held w6 b ra rn rc u) : S4 w6 b ra rn rc F1 x0 x1 x2 F2 y0 y1 y2 F3 z0 z1 z2 F4 v0 v1 v2 u := by
  have a1 := h1.apart h.ap k1
  have a2 := h2.apart h.ap k2
  have a3 := h3.apart h.ap k3
  have a4 := h4.apart h.ap k4
  exact ⟨a1.c0, a1.c1, a1.c2, a2.c0, a2.c1, a2.c2, a3.c0, a3.c1, a3.c2, a4.c0, a4.c1, a4.c2, h⟩
theorem s4_of (h : S4 w6 b ra rn rc F1 x0 x1 x2 F2 y0 y1 y2 F3 z0 z1 z2 F4 v0 v1 v2 u) : Held w6 b ra rn rc u := h.2.2.2.2.2.2.2.2.2.2.2.2.out
end
theorem sameB_self (zs : List Int) (p inc : Int) : sameB zs p inc zs p inc = true := by unfold sameB; simp
theorem cell_new {w : World} {cs : Array Value} {t : TypeId} {i : Nat} {v : Value} (h : cs[i]? = some v) : (w.alloc (.cells cs t)).cell? ⟨w.heap.size, i, none⟩ = some v := by
  rw [cell_of_row _ w.heap.size i cs t (0, 0) (heap_alloc_new w _)]; exact h
section
variable {w : World} {b : Nat} {a1 a2 a3 a4 a5 : Option Addr} {n1 n2 n3 n4 n5 c1 c2 c3 c4 c5 : Nat} {z1 z2 z3 z4 z5 : List Int} {p1 p2 p3 p4 p5 i1 i2 i3 i4 i5 : Int} {t : TypeId}
end
/-- What Bent hands back stands. -/
theorem bent_in {w w' : World} {b : Nat} {a' : Option Addr} {n' cap' : Nat} {zs : List Int} {p inc : Int} (hbl : b < w.heap.size) (hr : RowZ w' a' n' cap' zs) (hp : -2000 ≤ p ∧ p ≤ 2000) (hi : -4294967296 ≤ inc ∧ inc ≤ 4294967296) (hx : ∀ x, a' = some x → w.heap.size ≤ x.block) : CurIn w' b a' n' cap' zs p inc :=
  ⟨hr, ⟨by omega, by omega⟩, ⟨by omega, by omega⟩, fun _ x h => by have := hx x h; omega⟩
theorem ok_bd {most : Nat} {zs : List Int} {p : Nat} {inc : Int} (h : OkCur most zs p inc) : ∀ i, i < zs.length → -4611686018427387905 ≤ zs.getD i 0 ∧ zs.getD i 0 ≤ 4611686018427387905 := fun i hi => by
  rcases h.good.val i hi with ⟨h1, h2⟩ | h1
  · omega
  · rw [h1, show infV = 4611686018427387904 from rfl]; omega

end Go.Proofs.YtkienpbmoilheaaGreat
