/- The walk of CurveAnswers. By the verifier's side. -/
import Derived.Test.YtdakadgfnlpogaaCurveEqualW
import Derived.Test.YtdakadgfnlpogaaRefU
import Derived.Test.YtdakadgfnlpogaaBentN
namespace Go.Proofs.Ytdakadgfnlpogaa
open Go.RowKit
set_option linter.unusedSimpArgs false

/-- A curve that stands in a world, none of its cells in the reader's block. -/
structure CurIn (w : World) (b : Nat) (a : Option Addr) (n cap : Nat) (zs : List Int) (p inc : Int) : Prop where
  row : RowZ w a n cap zs
  ip : In64 p
  ii : In64 inc
  far : 1 ≤ n → ∀ x, a = some x → ¬ x.block = b
theorem RowZ.apart2 {w w' : World} {a : Option Addr} {n cap b : Nat} {zs : List Int} (h : RowZ w a n cap zs) (ha : Apart b w w') (hx : 1 ≤ n → ∀ x, a = some x → ¬ x.block = b) : RowZ w' a n cap zs := by
  rcases Nat.eq_zero_or_pos n with rfl | hn
  · exact ⟨h.len, h.le, h.sm, h.cm, fun i hi => absurd hi (Nat.not_lt_zero _), fun i hi => absurd hi (Nat.not_lt_zero _)⟩
  · exact h.apart ha (hx hn)
/-- What stands below a block that is made later is not in it. -/
theorem CurIn.old {w : World} {a : Option Addr} {n cap : Nat} {zs : List Int} {p inc : Int} (h : RowZ w a n cap zs) (hp : In64 p) (hi : In64 inc) {b : Nat} (hb : w.heap.size ≤ b) : CurIn w b a n cap zs p inc :=
  ⟨h, hp, hi, fun hn x hx => by have := row_lt h hn x hx; omega⟩
section
variable {w u : World} {b : Nat} {a : Option Addr} {n cap : Nat} {zs : List Int} {p inc : Int}
theorem CurIn.apart (h : CurIn w b a n cap zs p inc) (ha : Apart b w u) : CurIn u b a n cap zs p inc := ⟨h.row.apart2 ha h.far, h.ip, h.ii, h.far⟩
theorem CurIn.below (h : CurIn w b a n cap zs p inc) (hb : Below w.heap.size w u) : CurIn u b a n cap zs p inc := ⟨h.row.under hb, h.ip, h.ii, h.far⟩
end

/-- A list of curves in one block. -/
def Curs (w : World) (b B N : Nat) : Prop :=
  ∀ k, k < N → ∃ (a : Option Addr) (n cap : Nat) (zs : List Int) (p inc : Int), CurIn w b a n cap zs p inc ∧ w.cell? ⟨B, k * 3, none⟩ = some (.slice a n cap) ∧ w.cell? ⟨B, k * 3 + 1, none⟩ = some (.int .i64 p) ∧ w.cell? ⟨B, k * 3 + 2, none⟩ = some (.int .i64 inc)
theorem Curs.apart {w u : World} {b B N : Nat} (h : Curs w b B N) (ha : Apart b w u) (hB : ¬ B = b) : Curs u b B N := fun k hk => by
  obtain ⟨a, n, cap, zs, p, inc, h1, h2, h3, h4⟩ := h k hk
  exact ⟨a, n, cap, zs, p, inc, h1.apart ha, (World.cell?_of_block (ha.block _ (lt_of_cell h2) hB)).trans h2, (World.cell?_of_block (ha.block _ (lt_of_cell h3) hB)).trans h3, (World.cell?_of_block (ha.block _ (lt_of_cell h4) hB)).trans h4⟩

/-- Four boxes' cells, and the reader. -/
abbrev S4 (w6 : World) (b : Nat) (ra : Option Addr) (rn rc : Nat) (F1 : Nat) (x0 x1 x2 : Value) (F2 : Nat) (y0 y1 y2 : Value) (F3 : Nat) (z0 z1 z2 : Value) (F4 : Nat) (v0 v1 v2 : Value) (u : World) : Prop :=
  u.cell? ⟨F1, 0, none⟩ = some x0 ∧ u.cell? ⟨F1, 1, none⟩ = some x1 ∧ u.cell? ⟨F1, 2, none⟩ = some x2 ∧ u.cell? ⟨F2, 0, none⟩ = some y0 ∧ u.cell? ⟨F2, 1, none⟩ = some y1 ∧ u.cell? ⟨F2, 2, none⟩ = some y2 ∧
  u.cell? ⟨F3, 0, none⟩ = some z0 ∧ u.cell? ⟨F3, 1, none⟩ = some z1 ∧ u.cell? ⟨F3, 2, none⟩ = some z2 ∧ u.cell? ⟨F4, 0, none⟩ = some v0 ∧ u.cell? ⟨F4, 1, none⟩ = some v1 ∧ u.cell? ⟨F4, 2, none⟩ = some v2 ∧ Hid (Held w6 b ra rn rc u)
section
variable {w6 u v : World} {b : Nat} {ra : Option Addr} {rn rc : Nat} {F1 : Nat} {x0 x1 x2 : Value} {F2 : Nat} {y0 y1 y2 : Value} {F3 : Nat} {z0 z1 z2 : Value} {F4 : Nat} {v0 v1 v2 : Value}
theorem s4_mk (h1 : Cur3 w6 F1 x0 x1 x2) (h2 : Cur3 w6 F2 y0 y1 y2) (h3 : Cur3 w6 F3 z0 z1 z2) (h4 : Cur3 w6 F4 v0 v1 v2) (k1 : ¬ F1 = b) (k2 : ¬ F2 = b) (k3 : ¬ F3 = b) (k4 : ¬ F4 = b) (h : Held w6 b ra rn rc u) : S4 w6 b ra rn rc F1 x0 x1 x2 F2 y0 y1 y2 F3 z0 z1 z2 F4 v0 v1 v2 u := by
  have a1 := h1.apart h.ap k1
  have a2 := h2.apart h.ap k2
  have a3 := h3.apart h.ap k3
  have a4 := h4.apart h.ap k4
  exact ⟨a1.c0, a1.c1, a1.c2, a2.c0, a2.c1, a2.c2, a3.c0, a3.c1, a3.c2, a4.c0, a4.c1, a4.c2, h⟩
theorem s4_of (h : S4 w6 b ra rn rc F1 x0 x1 x2 F2 y0 y1 y2 F3 z0 z1 z2 F4 v0 v1 v2 u) : Held w6 b ra rn rc u := h.2.2.2.2.2.2.2.2.2.2.2.2.out
end
theorem three_cells {w : World} {x y z : Int} {t : TypeId} (hx : In64 x) (hy : In64 y) (hz : In64 z) : ∀ i, i < 3 → ∃ v, (w.alloc (.cells #[.int .i64 x, .int .i64 y, .int .i64 z] t)).cell? ⟨w.heap.size, i, none⟩ = some (.int .i64 v) ∧ In64 v := fun i hi => by
  have h := Cur3.new w (.int .i64 x) (.int .i64 y) (.int .i64 z) t
  have h3 : i = 0 ∨ i = 1 ∨ i = 2 := by omega
  rcases h3 with rfl | rfl | rfl
  · exact ⟨x, h.c0, hx⟩
  · exact ⟨y, h.c1, hy⟩
  · exact ⟨z, h.c2, hz⟩
/-- A block of two cells. -/
structure Cur2 (w : World) (b : Nat) (x0 x1 : Value) : Prop where
  c0 : w.cell? ⟨b, 0, none⟩ = some x0
  c1 : w.cell? ⟨b, 1, none⟩ = some x1
theorem cur2_below {w w' : World} {b : Nat} {x0 x1 : Value} (h : Cur2 w b x0 x1) (hb : Below w.heap.size w w') : Cur2 w' b x0 x1 :=
  ⟨(hb.cell (lt_of_cell h.c0)).trans h.c0, (hb.cell (lt_of_cell h.c1)).trans h.c1⟩
theorem Cur2.alloc {w : World} {b : Nat} {x0 x1 : Value} (h : Cur2 w b x0 x1) (o : Obj) : Cur2 (w.alloc o) b x0 x1 := cur2_below h ((Below.refl _ _).alloc (Nat.le_refl _) o)
theorem cur2_new (w : World) (x0 x1 : Value) (t : TypeId) : Cur2 (w.alloc (.cells #[x0, x1] t)) w.heap.size x0 x1 := ⟨by go_simp, by go_simp⟩
/-- Five boxes' cells behind what only makes memory. -/
abbrev S12 (w : World) (F1 : Nat) (x0 x1 x2 : Value) (F2 : Nat) (y0 y1 y2 : Value) (F3 : Nat) (z0 z1 z2 : Value) (F4 : Nat) (s0 s1 : Value) (F5 : Nat) (t0 t1 : Value) (u : World) : Prop :=
  u.cell? ⟨F1, 0, none⟩ = some x0 ∧ u.cell? ⟨F1, 1, none⟩ = some x1 ∧ u.cell? ⟨F1, 2, none⟩ = some x2 ∧ u.cell? ⟨F2, 0, none⟩ = some y0 ∧ u.cell? ⟨F2, 1, none⟩ = some y1 ∧ u.cell? ⟨F2, 2, none⟩ = some y2 ∧
  u.cell? ⟨F3, 0, none⟩ = some z0 ∧ u.cell? ⟨F3, 1, none⟩ = some z1 ∧ u.cell? ⟨F3, 2, none⟩ = some z2 ∧ u.cell? ⟨F4, 0, none⟩ = some s0 ∧ u.cell? ⟨F4, 1, none⟩ = some s1 ∧ u.cell? ⟨F5, 0, none⟩ = some t0 ∧ u.cell? ⟨F5, 1, none⟩ = some t1 ∧ Hid (Below w.heap.size w u)
theorem s12_mk {w u : World} {F1 : Nat} {x0 x1 x2 : Value} {F2 : Nat} {y0 y1 y2 : Value} {F3 : Nat} {z0 z1 z2 : Value} {F4 : Nat} {s0 s1 : Value} {F5 : Nat} {t0 t1 : Value} (h1 : Cur3 w F1 x0 x1 x2) (h2 : Cur3 w F2 y0 y1 y2) (h3 : Cur3 w F3 z0 z1 z2) (h4 : Cur2 w F4 s0 s1) (h5 : Cur2 w F5 t0 t1) (hb : Below w.heap.size w u) : S12 w F1 x0 x1 x2 F2 y0 y1 y2 F3 z0 z1 z2 F4 s0 s1 F5 t0 t1 u := by
  have a1 := h1.below hb
  have a2 := h2.below hb
  have a3 := h3.below hb
  have a4 := cur2_below h4 hb
  have a5 := cur2_below h5 hb
  exact ⟨a1.c0, a1.c1, a1.c2, a2.c0, a2.c1, a2.c2, a3.c0, a3.c1, a3.c2, a4.c0, a4.c1, a5.c0, a5.c1, hb⟩
/-- Two boxes' cells behind what only makes memory. -/
abbrev S6 (w : World) (F1 : Nat) (x0 x1 x2 : Value) (F2 : Nat) (y0 y1 y2 : Value) (u : World) : Prop :=
  u.cell? ⟨F1, 0, none⟩ = some x0 ∧ u.cell? ⟨F1, 1, none⟩ = some x1 ∧ u.cell? ⟨F1, 2, none⟩ = some x2 ∧ u.cell? ⟨F2, 0, none⟩ = some y0 ∧ u.cell? ⟨F2, 1, none⟩ = some y1 ∧ u.cell? ⟨F2, 2, none⟩ = some y2 ∧ Hid (Below w.heap.size w u)
theorem s6_mk {w u : World} {F1 : Nat} {x0 x1 x2 : Value} {F2 : Nat} {y0 y1 y2 : Value} (h1 : Cur3 w F1 x0 x1 x2) (h2 : Cur3 w F2 y0 y1 y2) (hb : Below w.heap.size w u) : S6 w F1 x0 x1 x2 F2 y0 y1 y2 u := by
  have a1 := h1.below hb
  have a2 := h2.below hb
  exact ⟨a1.c0, a1.c1, a1.c2, a2.c0, a2.c1, a2.c2, hb⟩
theorem sameB_self (zs : List Int) (p inc : Int) : sameB zs p inc zs p inc = true := by unfold sameB; simp
theorem cell_new {w : World} {cs : Array Value} {t : TypeId} {i : Nat} {v : Value} (h : cs[i]? = some v) : (w.alloc (.cells cs t)).cell? ⟨w.heap.size, i, none⟩ = some v := by
  rw [cell_of_row _ w.heap.size i cs t (0, 0) (heap_alloc_new w _)]; exact h
section
variable {w : World} {b : Nat} {a1 a2 a3 a4 a5 : Option Addr} {n1 n2 n3 n4 n5 c1 c2 c3 c4 c5 : Nat} {z1 z2 z3 z4 z5 : List Int} {p1 p2 p3 p4 p5 i1 i2 i3 i4 i5 : Int} {t : TypeId}
theorem curs5 (h1 : CurIn w b a1 n1 c1 z1 p1 i1) (h2 : CurIn w b a2 n2 c2 z2 p2 i2) (h3 : CurIn w b a3 n3 c3 z3 p3 i3) (h4 : CurIn w b a4 n4 c4 z4 p4 i4) (h5 : CurIn w b a5 n5 c5 z5 p5 i5) :
    Curs (w.alloc (.cells #[.slice a1 n1 c1, .int .i64 p1, .int .i64 i1, .slice a2 n2 c2, .int .i64 p2, .int .i64 i2, .slice a3 n3 c3, .int .i64 p3, .int .i64 i3, .slice a4 n4 c4, .int .i64 p4, .int .i64 i4, .slice a5 n5 c5, .int .i64 p5, .int .i64 i5] t)) b w.heap.size 5 := fun k hk => by
  have hb := fun o => (Below.refl w.heap.size w).alloc (Nat.le_refl _) o
  have hk5 : k = 0 ∨ k = 1 ∨ k = 2 ∨ k = 3 ∨ k = 4 := by omega
  rcases hk5 with rfl | rfl | rfl | rfl | rfl
  · exact ⟨_, _, _, _, _, _, h1.below (hb _), cell_new rfl, cell_new rfl, cell_new rfl⟩
  · exact ⟨_, _, _, _, _, _, h2.below (hb _), cell_new rfl, cell_new rfl, cell_new rfl⟩
  · exact ⟨_, _, _, _, _, _, h3.below (hb _), cell_new rfl, cell_new rfl, cell_new rfl⟩
  · exact ⟨_, _, _, _, _, _, h4.below (hb _), cell_new rfl, cell_new rfl, cell_new rfl⟩
  · exact ⟨_, _, _, _, _, _, h5.below (hb _), cell_new rfl, cell_new rfl, cell_new rfl⟩
theorem curs3 (h1 : CurIn w b a1 n1 c1 z1 p1 i1) (h2 : CurIn w b a2 n2 c2 z2 p2 i2) (h3 : CurIn w b a3 n3 c3 z3 p3 i3) :
    Curs (w.alloc (.cells #[.slice a1 n1 c1, .int .i64 p1, .int .i64 i1, .slice a2 n2 c2, .int .i64 p2, .int .i64 i2, .slice a3 n3 c3, .int .i64 p3, .int .i64 i3] t)) b w.heap.size 3 := fun k hk => by
  have hb := fun o => (Below.refl w.heap.size w).alloc (Nat.le_refl _) o
  have hk5 : k = 0 ∨ k = 1 ∨ k = 2 := by omega
  rcases hk5 with rfl | rfl | rfl
  · exact ⟨_, _, _, _, _, _, h1.below (hb _), cell_new rfl, cell_new rfl, cell_new rfl⟩
  · exact ⟨_, _, _, _, _, _, h2.below (hb _), cell_new rfl, cell_new rfl, cell_new rfl⟩
  · exact ⟨_, _, _, _, _, _, h3.below (hb _), cell_new rfl, cell_new rfl, cell_new rfl⟩
end
/-- What Bent hands back stands. -/
theorem bent_in {w w' : World} {b : Nat} {a' : Option Addr} {n' cap' : Nat} {zs : List Int} {p inc : Int} (hbl : b < w.heap.size) (hr : RowZ w' a' n' cap' zs) (hp : -2000 ≤ p ∧ p ≤ 2000) (hi : -4294967296 ≤ inc ∧ inc ≤ 4294967296) (hx : ∀ x, a' = some x → w.heap.size ≤ x.block) : CurIn w' b a' n' cap' zs p inc :=
  ⟨hr, ⟨by omega, by omega⟩, ⟨by omega, by omega⟩, fun _ x h => by have := hx x h; omega⟩
theorem ok_bd {most : Nat} {zs : List Int} {p : Nat} {inc : Int} (h : OkCur most zs p inc) : ∀ i, i < zs.length → -4611686018427387905 ≤ zs.getD i 0 ∧ zs.getD i 0 ≤ 4611686018427387905 := fun i hi => by
  rcases h.good.val i hi with ⟨h1, h2⟩ | h1
  · omega
  · rw [h1, show infV = 4611686018427387904 from rfl]; omega

set_option maxRecDepth 100000 in
set_option maxHeartbeats 6400000 in
theorem curveAnswers_walk (W : World) (aR : Option Addr) (nR cR : Nat) (zR : List Int) (pR iR : Int) (aO : Option Addr) (nO cO : Nat) (zO : List Int) (pO iO : Int) (t : Int) (a : Option Addr) (n cap : Nat)
    (hR : nR ≤ 800 → RowZ W aR nR cR zR) (hpR : In64 pR) (hiR : In64 iR) (hO : nO ≤ 800 → RowZ W aO nO cO zO) (hpO : In64 pO) (hiO : In64 iO) (ht : In64 t) (hrow : RowAt W a n cap) :
    Calls Try.prog 3 #[curV aR nR cR pR iR, curV aO nO cO pO iO, .int .i64 t, .slice a n cap] W fun e w' => e = .returned (.bool true) ∧ Below W.heap.size W w' := by
  have hR0 : ∀ {u : World}, Below W.heap.size W u → RowAt u a n cap := fun hb => RowAt.under hrow hb
  have HIR := Lib.hid (And.intro hpR hiR)
  have HIO := Lib.hid (And.intro hpO hiO)
  have HT := Lib.hid ht
  clear hrow hpR hiR hpO hiO ht
  go_enter Try.func3, Try.ntmps3
  have hB0 : Below W.heap.size W ((W.alloc (.cells #[.slice aR nR cR, .int .i64 pR, .int .i64 iR] 24)).alloc (.cells #[.slice aO nO cO, .int .i64 pO, .int .i64 iO] 24)) :=
    ((Below.refl _ _).alloc (Nat.le_refl _) _).alloc (by simp) _
  have HB0 := Lib.hid hB0
  have HR0 := Lib.hid (hR0 hB0)
  have K4 := Lib.hid ((Cur3.new W (.slice aR nR cR) (.int .i64 pR) (.int .i64 iR) 24).alloc (.cells #[.slice aO nO cO, .int .i64 pO, .int .i64 iO] 24))
  have K5 := Lib.hid (Cur3.new2 W (.slice aO nO cO) (.int .i64 pO) (.int .i64 iO) 24 (.cells #[.slice aR nR cR, .int .i64 pR, .int .i64 iR] 24))
  have HSZ := Lib.hid (show ((W.alloc (.cells #[.slice aR nR cR, .int .i64 pR, .int .i64 iR] 24)).alloc (.cells #[.slice aO nO cO, .int .i64 pO, .int .i64 iO] 24)).heap.size = W.heap.size + 1 + 1 by simp)
  have RR0 := Lib.hid (fun hh => (hR hh).under hB0)
  have RO0 := Lib.hid (fun hh => (hO hh).under hB0)
  clear hB0 hR0 hR hO
  go_wp2_with fail
  generalize (W.alloc (.cells #[.slice aR nR cR, .int .i64 pR, .int .i64 iR] 24)).alloc (.cells #[.slice aO nO cO, .int .i64 pO, .int .i64 iO] 24) = w0 at HB0 HR0 K4 K5 HSZ RR0 RO0 ⊢
  obtain ⟨b1, hb1⟩ : ∃ b, decide (nR ≤ 800) = b := ⟨_, rfl⟩
  have HS1 := Lib.hid hb1
  refine (small_any aR nR cR pR iR b1 HS1.out _).mono ?_
  rintro e w1 ⟨rfl, hw1⟩
  have HB1 := Lib.hid (HB0.out.trans (hw1.mono HB0.out.size))
  have HW1 := Lib.hid hw1
  clear hb1 hw1
  cases b1 with
  | false =>
    go_wp2_with fail
    refine (awake_all _).mono ?_
    rintro e w2 ⟨rfl, hw2⟩
    have HB2 := Lib.hid (HB1.out.trans (hw2.mono HB1.out.size))
    go_wp2_with fail
    go_ret
    exact ⟨rfl, HB2.out⟩
  | true =>
    have K5' := K5.out.below HW1.out
    obtain ⟨c0, c1, c2, f0, f1, f2⟩ := K5'
    go_wp2_with fail
    obtain ⟨b2, hb2⟩ : ∃ b, decide (nO ≤ 800) = b := ⟨_, rfl⟩
    have HS2 := Lib.hid hb2
    refine (small_any aO nO cO pO iO b2 HS2.out _).mono ?_
    rintro e w2 ⟨rfl, hw2⟩
    have HB2 := Lib.hid (HB1.out.trans (hw2.mono HB1.out.size))
    have HW2 := Lib.hid (HW1.out.trans (hw2.mono HW1.out.size))
    clear hb2 hw2 c0 c1 c2 f0 f1 f2
    cases b2 with
    | false =>
      go_wp2_with fail
      refine (awake_all _).mono ?_
      rintro e w3 ⟨rfl, hw3⟩
      have HB3 := Lib.hid (HB2.out.trans (hw3.mono HB2.out.size))
      go_wp2_with fail
      go_ret
      exact ⟨rfl, HB3.out⟩
    | true =>
      have hnR : nR ≤ 800 := by simpa using HS1.out
      have hnO : nO ≤ 800 := by simpa using HS2.out
      have HNN := Lib.hid (And.intro hnR hnO)
      clear hnR hnO HS1 HS2
      go_wp2_with fail
      refine (new_any a n cap _ (HR0.out.under HW2.out)).mono ?_
      rintro e w3 ⟨rfl, hb3, hz3, ra, rn, rc, hs3⟩
      have HB3 := Lib.hid (HB2.out.trans (hb3.mono HB2.out.size))
      have HW3 := Lib.hid (HW2.out.trans (hb3.mono HW2.out.size))
      have HS3 := Lib.hid hs3
      have hbW : W.heap.size ≤ w2.heap.size := HB2.out.size
      have hb0 : w0.heap.size ≤ w2.heap.size := HW2.out.size
      have HZ0 := Lib.hid (And.intro hbW hb0)
      have CR := Lib.hid (show CurIn w3 w2.heap.size aR nR cR zR pR iR from (CurIn.old (RR0.out HNN.out.1) HIR.out.1 HIR.out.2 hb0).below HW3.out)
      have CO := Lib.hid (show CurIn w3 w2.heap.size aO nO cO zO pO iO from (CurIn.old (RO0.out HNN.out.2) HIO.out.1 HIO.out.2 hb0).below HW3.out)
      have K4' := Lib.hid (K4.out.below HW3.out)
      have K5' := Lib.hid (K5.out.below HW3.out)
      have h4b : ¬ W.heap.size = w2.heap.size := by have := HSZ.out; omega
      have h5b : ¬ W.heap.size + 1 = w2.heap.size := by have := HSZ.out; omega
      clear hb3 hz3 hs3 hbW hb0 RR0 RO0 K4 K5 HR0 HB2 HB1 HB0 HW1 HW2
      generalize w2.heap.size = b at *
      go_wp2_with fail
      refine (curve_any 9 (by omega) (by omega) _ ra rn rc _ HS3.out).mono ?_
      rintro e w4 ⟨a1, n1, cap1, zs, p, inc, rfl, hs4, he4, hr4, ok4, hx4⟩
      have HS4 := Lib.hid hs4
      have HB4 := Lib.hid (HB3.out.trans (he4.below HZ0.out.1 HB3.out.size))
      have C1 := Lib.hid (show CurIn w4 b a1 n1 cap1 zs p inc from ⟨hr4, by have := ok4.p8; exact ⟨by omega, by omega⟩, by have := ok4.inc; have := ok4.good.i0; exact ⟨by omega, by omega⟩, fun _ x hx => by have := hx4 x hx; have := HS3.out.lt; omega⟩)
      have OK1 := Lib.hid ok4
      have E4 := Lib.hid he4
      clear hs4 he4 hr4 ok4 hx4
      go_wp2_with fail
      refine (curve_any 9 (by omega) (by omega) _ ra rn rc _ HS4.out).mono ?_
      rintro e w5 ⟨a2, n2, cap2, ys, q, jnc, rfl, hs5, he5, hr5, ok5, hx5⟩
      have HS5 := Lib.hid hs5
      have HB5 := Lib.hid (HB4.out.trans (he5.below HZ0.out.1 HB4.out.size))
      have C2 := Lib.hid (show CurIn w5 b a2 n2 cap2 ys q jnc from ⟨hr5, by have := ok5.p8; exact ⟨by omega, by omega⟩, by have := ok5.inc; have := ok5.good.i0; exact ⟨by omega, by omega⟩, fun _ x hx => by have := hx5 x hx; have := HS4.out.lt; omega⟩)
      have OK2 := Lib.hid ok5
      have E5 := Lib.hid (E4.out.trans he5)
      have E45 := Lib.hid he5
      clear hs5 he5 hr5 ok5 hx5
      go_wp2_with fail
      have hz5 : w0.heap.size ≤ w5.heap.size := by have := HZ0.out.2; have := HS5.out.lt; omega
      have C1' := Lib.hid (((C1.out.apart E45.out).below ((Below.refl _ _).alloc (Nat.le_refl _) (.cells #[.slice a1 n1 cap1, .int .i64 p, .int .i64 inc] 24))).below ((Below.refl _ _).alloc (Nat.le_refl _) (.cells #[.slice a2 n2 cap2, .int .i64 q, .int .i64 jnc] 24)))
      have C2' := Lib.hid ((C2.out.below ((Below.refl _ _).alloc (Nat.le_refl _) (.cells #[.slice a1 n1 cap1, .int .i64 p, .int .i64 inc] 24))).below ((Below.refl _ _).alloc (Nat.le_refl _) (.cells #[.slice a2 n2 cap2, .int .i64 q, .int .i64 jnc] 24)))
      have CR' := Lib.hid (((CR.out.apart E5.out).below ((Below.refl _ _).alloc (Nat.le_refl _) (.cells #[.slice a1 n1 cap1, .int .i64 p, .int .i64 inc] 24))).below ((Below.refl _ _).alloc (Nat.le_refl _) (.cells #[.slice a2 n2 cap2, .int .i64 q, .int .i64 jnc] 24)))
      have CO' := Lib.hid (((CO.out.apart E5.out).below ((Below.refl _ _).alloc (Nat.le_refl _) (.cells #[.slice a1 n1 cap1, .int .i64 p, .int .i64 inc] 24))).below ((Below.refl _ _).alloc (Nat.le_refl _) (.cells #[.slice a2 n2 cap2, .int .i64 q, .int .i64 jnc] 24)))
      have HS6 := Lib.hid ((HS5.out.under ((Below.refl _ _).alloc (Nat.le_refl _) (.cells #[.slice a1 n1 cap1, .int .i64 p, .int .i64 inc] 24))).under ((Below.refl _ _).alloc (Nat.le_refl _) (.cells #[.slice a2 n2 cap2, .int .i64 q, .int .i64 jnc] 24)))
      have HB6 := Lib.hid ((HB5.out.alloc HB5.out.size (.cells #[.slice a1 n1 cap1, .int .i64 p, .int .i64 inc] 24)).alloc (HB5.out.alloc HB5.out.size (.cells #[.slice a1 n1 cap1, .int .i64 p, .int .i64 inc] 24)).size (.cells #[.slice a2 n2 cap2, .int .i64 q, .int .i64 jnc] 24))
      have B4 := Lib.hid (((K4'.out.apart E5.out h4b).alloc (.cells #[.slice a1 n1 cap1, .int .i64 p, .int .i64 inc] 24)).alloc (.cells #[.slice a2 n2 cap2, .int .i64 q, .int .i64 jnc] 24))
      have B5 := Lib.hid (((K5'.out.apart E5.out h5b).alloc (.cells #[.slice a1 n1 cap1, .int .i64 p, .int .i64 inc] 24)).alloc (.cells #[.slice a2 n2 cap2, .int .i64 q, .int .i64 jnc] 24))
      have B10 := Lib.hid ((Cur3.new w5 (.slice a1 n1 cap1) (.int .i64 p) (.int .i64 inc) 24).alloc (.cells #[.slice a2 n2 cap2, .int .i64 q, .int .i64 jnc] 24))
      have B11 := Lib.hid (Cur3.new2 w5 (.slice a2 n2 cap2) (.int .i64 q) (.int .i64 jnc) 24 (.cells #[.slice a1 n1 cap1, .int .i64 p, .int .i64 inc] 24))
      have h10b : ¬ w5.heap.size = b := by have := HS5.out.lt; omega
      have h11b : ¬ w5.heap.size + 1 = b := by have := HS5.out.lt; omega
      clear hz5 CR CO C1 C2 K4' K5' HS3 HS4 HW3 E5 E45 E4 HB5 HB4 HB3
      generalize (w5.alloc (.cells #[.slice a1 n1 cap1, .int .i64 p, .int .i64 inc] 24)).alloc (.cells #[.slice a2 n2 cap2, .int .i64 q, .int .i64 jnc] 24) = w6 at *
      have HK := Lib.hid (fun u (h : Held w6 b ra rn rc u) => s4_mk B4.out B5.out B10.out B11.out h4b h5b h10b h11b h)
      have HK0 := Lib.hid (HK.out _ (Held.start HS6.out).drew)
      have hn1 : 1 ≤ n1 ∧ n1 ≤ 16 := by have := ok_pos OK1.out; have := OK1.out.few; have := C1'.out.row.len; omega
      have hn2 : 1 ≤ n2 ∧ n2 ≤ 16 := by have := ok_pos OK2.out; have := OK2.out.few; have := C2'.out.row.len; omega
      have P1 := Lib.hid (show (-2000 ≤ (p : Int) ∧ (p : Int) ≤ 2000) ∧ (-4294967296 ≤ inc ∧ inc ≤ 4294967296) from by have := OK1.out.p8; have := OK1.out.inc; have := OK1.out.good.i0; omega)
      have P2 := Lib.hid (show (-2000 ≤ (q : Int) ∧ (q : Int) ≤ 2000) ∧ (-4294967296 ≤ jnc ∧ jnc ≤ 4294967296) from by have := OK2.out.p8; have := OK2.out.inc; have := OK2.out.good.i0; omega)
      have D1 := Lib.hid (ok_bd OK1.out)
      have D2 := Lib.hid (ok_bd OK2.out)
      have hbl6 := HS6.out.lt
      go_cut [56, 57, 58] (fun s56 s57 s58 wx => ∃ B, s56 = .slice (some ⟨B, 0, none⟩) 5 5 ∧ s57 = .int .i64 5 ∧ s58 = .int .i64 0 ∧ ¬ B = b ∧ Hid (Curs wx b B 5) ∧ Hid (Held w6 b ra rn rc wx))
      case first =>
        go_region_held3 (fun u => u.cell? ⟨W.heap.size, 0, none⟩ = some (.slice aR nR cR) ∧ u.cell? ⟨W.heap.size, 1, none⟩ = some (.int .i64 pR) ∧ u.cell? ⟨W.heap.size, 2, none⟩ = some (.int .i64 iR) ∧ u.cell? ⟨W.heap.size + 1, 0, none⟩ = some (.slice aO nO cO) ∧ u.cell? ⟨W.heap.size + 1, 1, none⟩ = some (.int .i64 pO) ∧ u.cell? ⟨W.heap.size + 1, 2, none⟩ = some (.int .i64 iO) ∧
            u.cell? ⟨w5.heap.size, 0, none⟩ = some (.slice a1 n1 cap1) ∧ u.cell? ⟨w5.heap.size, 1, none⟩ = some (.int .i64 p) ∧ u.cell? ⟨w5.heap.size, 2, none⟩ = some (.int .i64 inc) ∧ u.cell? ⟨w5.heap.size + 1, 0, none⟩ = some (.slice a2 n2 cap2) ∧ u.cell? ⟨w5.heap.size + 1, 1, none⟩ = some (.int .i64 q) ∧ u.cell? ⟨w5.heap.size + 1, 2, none⟩ = some (.int .i64 jnc) ∧ Hid (Held w6 b ra rn rc u))
          (first | with_reducible exact HK0.out | with_reducible exact HK.out _ ((s4_of (by assumption)).call hs9 he9) | with_reducible exact HK.out _ ((s4_of (by assumption)).call hs8 he8) | with_reducible exact HK.out _ ((s4_of (by assumption)).call hs7 he7) | with_reducible exact HK.out _ ((s4_of (by assumption)).alloc _) | with_reducible exact HK.out _ ((s4_of (by assumption)).alloc _).drew | with_reducible exact HK.out _ ((s4_of (by assumption)).drew))
          (first
            | (go_at_call 12; ((with_reducible refine (bent_any 4611686018427387905 (by decide) (by decide) b ra rn rc a1 n1 cap1 zs p inc hn1.1 (by omega) D1.out P1.out.1 P1.out.2 _ ((s4_of (by assumption)).at HS6.out) (C1'.out.apart (s4_of (by assumption)).ap).row).mono ?_); rintro e w7 ⟨a7, n7, cap7, z7, p7, i7, rfl, hs7, he7, hr7, hm7, hd7, hp7, hi7, hx7⟩))
            | (go_at_call 12; ((with_reducible refine (bent_any 4611686018427387905 (by decide) (by decide) b ra rn rc a2 n2 cap2 ys q jnc hn2.1 (by omega) D2.out P2.out.1 P2.out.2 _ ((s4_of (by assumption)).at HS6.out) (C2'.out.apart (s4_of (by assumption)).ap).row).mono ?_); rintro e w8 ⟨a8, n8, cap8, z8, p8, i8, rfl, hs8, he8, hr8, hm8, hd8, hp8, hi8, hx8⟩; have HK8 := Lib.hid ((s4_of (by assumption)).call hs8 he8)))
            | (go_at_call 12; ((with_reducible refine (bent_u (4611686018427387905 + 2) (by decide) (by decide) b ra rn rc a8 n8 cap8 z8 p8 i8 (by omega) hd8 hp8 hi8 _ ((s4_of (by assumption)).at HS6.out) hr8).mono ?_); rintro e w9 ⟨a9, n9, cap9, z9, p9, i9, rfl, hs9, he9, hr9, hm9, hd9, hp9, hi9, hx9⟩)))
        go_wp2_with fail
        go_meet
        have hH9 := s4_of (show S4 w6 b ra rn rc W.heap.size _ _ _ (W.heap.size + 1) _ _ _ w5.heap.size _ _ _ (w5.heap.size + 1) _ _ _ w9 from HK.out _ ((HK8.out.call hs9 he9)))
        exact ⟨w9.heap.size, rfl, rfl, rfl, by have := hH9.lt; omega, curs5 (CR'.out.apart hH9.ap) (CO'.out.apart hH9.ap) (C1'.out.apart hH9.ap) ((bent_in (by assumption) hr7 hp7 hi7 hx7).apart (he8.trans he9)) (bent_in HK8.out.lt hr9 hp9 hi9 hx9), hH9.alloc _⟩
      case rest =>
        obtain ⟨B, rfl, rfl, rfl, hBb, HC, HH⟩ := hcut
        obtain ⟨w9, rfl⟩ : ∃ u : World, u = wc := ⟨_, rfl⟩
        have HB9 := Lib.hid (HB6.out.trans (HH.out.ap.below HZ0.out.1 HB6.out.size))
        have HS9 := Lib.hid (HH.out.at HS6.out)
        have hB10 := Lib.hid (B10.out.apart HH.out.ap h10b)
        have hB11 := Lib.hid (B11.out.apart HH.out.ap h11b)
        have hB5 := Lib.hid (B5.out.apart HH.out.ap h5b)
        have hCO := Lib.hid (CO'.out.apart HH.out.ap)
        have hCF := Lib.hid (C1'.out.apart HH.out.ap)
        have hCG := Lib.hid (C2'.out.apart HH.out.ap)
        clear HK HK0 B4 B5 B10 B11 CR' CO' C1' C2' HH HB6 HS6 P1 P2 D1 D2 hbl6 h4b
        go_wp2_with fail
        go_loopw [58] (fun s58 wx => ∃ k : Nat, s58 = .int .i64 (k : Int) ∧ k ≤ 5 ∧ Hid (Held w9 b ra rn rc wx)) (fun s58 _ => 5 - (intOf s58).toNat)
        case atStart => exact ⟨0, rfl, by omega, Held.start HS9.out⟩
        case round =>
          obtain ⟨k, rfl, hk5, HL⟩ := hrel
          obtain ⟨wq, rfl⟩ : ∃ u : World, u = wr := ⟨_, rfl⟩
          by_cases hk : k < 5
          · obtain ⟨xa, xn, xc, zx, xp, xi, CX, hc0, hc1, hc2⟩ := HC.out.apart HL.out.ap hBb k hk
            have q0 : (0 : Int) ≤ (k : Int) := by omega
            have q1 : (k : Int) < 5 := by omega
            have X1 := Lib.hid (CX.below ((Below.refl _ _).alloc (Nat.le_refl _) (.cells #[.slice xa xn xc, .int .i64 xp, .int .i64 xi] 24)))
            have H1 := Lib.hid (HL.out.alloc (.cells #[.slice xa xn xc, .int .i64 xp, .int .i64 xi] 24))
            have V1 := Lib.hid (Cur3.new wq (.slice xa xn xc) (.int .i64 xp) (.int .i64 xi) 24)
            have hF13 : w9.heap.size ≤ wq.heap.size := HL.out.ap.size
            clear CX
            have HXI := Lib.hid (And.intro X1.out.ip X1.out.ii)
            go_wp2_with fail
            clear hc0 hc1 hc2
            generalize wq.alloc (.cells #[.slice xa xn xc, .int .i64 xp, .int .i64 xi] 24) = wA at X1 H1 V1 ⊢
            refine (normal_u xa xn xc zx xp xi HXI.out.1 HXI.out.2 _ X1.out.row).mono ?_
            rintro e wB ⟨ya, yn, yc, zy, yp, yi, rfl, hb, hr, hnu, hyp, hyi⟩
            have NU := Lib.hid hnu
            obtain ⟨co, hco⟩ : ∃ c, codeU zx xp xi = c := ⟨_, rfl⟩
            have HCO := Lib.hid hco
            rw [hco]
            have X2 := Lib.hid ((X1.out.below hb).below ((Below.refl _ _).alloc (Nat.le_refl _) (.cells #[.slice ya yn yc, .int .i64 yp, .int .i64 yi] 24)))
            have H2 := Lib.hid ((H1.out.below hb).alloc (.cells #[.slice ya yn yc, .int .i64 yp, .int .i64 yi] 24))
            have V2 := Lib.hid ((V1.out.below hb).alloc (.cells #[.slice ya yn yc, .int .i64 yp, .int .i64 yi] 24))
            have R2 := Lib.hid (hr.alloc (.cells #[.slice ya yn yc, .int .i64 yp, .int .i64 yi] 24))
            have U2 := Lib.hid (Cur3.new wB (.slice ya yn yc) (.int .i64 yp) (.int .i64 yi) 24)
            obtain ⟨c0, c1, c2, f0, f1, f2⟩ := V2.out
            clear hb hr hnu hco X1 H1 V1
            go_wp2_with fail
            clear c0 c1 c2 f0 f1 f2
            generalize wB.alloc (.cells #[.slice ya yn yc, .int .i64 yp, .int .i64 yi] 24) = wC at X2 H2 V2 R2 U2 ⊢
            refine (rnormal_u xa xn xc zx xp xi HXI.out.1 HXI.out.2 _ X2.out.row).mono ?_
            rintro e wD ⟨va, vn, vc, zv, vp, vi, rfl, hb, hr, hnv, hvp, hvi⟩
            obtain ⟨rfl, rfl, rfl⟩ := NU.out.unique hnv
            rw [HCO.out]
            have X3 := Lib.hid ((X2.out.below hb).below ((Below.refl _ _).alloc (Nat.le_refl _) (.cells #[.slice va vn vc, .int .i64 yp, .int .i64 yi] 24)))
            have H3 := Lib.hid ((H2.out.below hb).alloc (.cells #[.slice va vn vc, .int .i64 yp, .int .i64 yi] 24))
            have V3 := Lib.hid ((V2.out.below hb).alloc (.cells #[.slice va vn vc, .int .i64 yp, .int .i64 yi] 24))
            have R3 := Lib.hid ((R2.out.under hb).alloc (.cells #[.slice va vn vc, .int .i64 yp, .int .i64 yi] 24))
            have U3 := Lib.hid ((U2.out.below hb).alloc (.cells #[.slice va vn vc, .int .i64 yp, .int .i64 yi] 24))
            have S3 := Lib.hid (hr.alloc (.cells #[.slice va vn vc, .int .i64 yp, .int .i64 yi] 24))
            have T3 := Lib.hid (Cur3.new wD (.slice va vn vc) (.int .i64 yp) (.int .i64 yi) 24)
            obtain ⟨c0, c1, c2, f0, f1, f2⟩ := V3.out
            clear hb hr hnv X2 H2 V2 R2 U2
            go_wp2_with fail
            clear c0 c1 c2 f0 f1 f2
            generalize wD.alloc (.cells #[.slice va vn vc, .int .i64 yp, .int .i64 yi] 24) = wE at X3 H3 V3 R3 U3 S3 T3 ⊢
            obtain ⟨sx, sy, sb, hsl⟩ := slopeU_ex zx xp xi
            have SL := Lib.hid hsl
            clear hsl
            refine (slope_u xa xn xc zx xp xi HXI.out.1 HXI.out.2 sx sy sb SL.out _ X3.out.row).mono ?_
            rintro e wF ⟨rfl, hb⟩
            have X4 := Lib.hid ((X3.out.below hb).below ((Below.refl _ _).alloc (Nat.le_refl _) (.cells #[.int .i64 sx, .int .i64 sy] 36)))
            have H4 := Lib.hid ((H3.out.below hb).alloc (.cells #[.int .i64 sx, .int .i64 sy] 36))
            have V4 := Lib.hid ((V3.out.below hb).alloc (.cells #[.int .i64 sx, .int .i64 sy] 36))
            have R4 := Lib.hid ((R3.out.under hb).alloc (.cells #[.int .i64 sx, .int .i64 sy] 36))
            have U4 := Lib.hid ((U3.out.below hb).alloc (.cells #[.int .i64 sx, .int .i64 sy] 36))
            have S4' := Lib.hid ((S3.out.under hb).alloc (.cells #[.int .i64 sx, .int .i64 sy] 36))
            have T4 := Lib.hid ((T3.out.below hb).alloc (.cells #[.int .i64 sx, .int .i64 sy] 36))
            have Y4 := Lib.hid (cur2_new wF (.int .i64 sx) (.int .i64 sy) 36)
            obtain ⟨c0, c1, c2, f0, f1, f2⟩ := V4.out
            clear hb X3 H3 V3 R3 U3 S3 T3
            go_wp2_with fail
            clear c0 c1 c2 f0 f1 f2
            generalize wF.alloc (.cells #[.int .i64 sx, .int .i64 sy] 36) = wG at X4 H4 V4 R4 U4 S4' T4 Y4 ⊢
            refine (rslope_u xa xn xc zx xp xi HXI.out.1 HXI.out.2 sx sy sb SL.out _ X4.out.row).mono ?_
            rintro e wI ⟨rfl, hb⟩
            have X5 := Lib.hid ((X4.out.below hb).below ((Below.refl _ _).alloc (Nat.le_refl _) (.cells #[.int .i64 sx, .int .i64 sy] 36)))
            have H5 := Lib.hid ((H4.out.below hb).alloc (.cells #[.int .i64 sx, .int .i64 sy] 36))
            have V5 := Lib.hid ((V4.out.below hb).alloc (.cells #[.int .i64 sx, .int .i64 sy] 36))
            have R5 := Lib.hid ((R4.out.under hb).alloc (.cells #[.int .i64 sx, .int .i64 sy] 36))
            have U5 := Lib.hid ((U4.out.below hb).alloc (.cells #[.int .i64 sx, .int .i64 sy] 36))
            have S5 := Lib.hid ((S4'.out.under hb).alloc (.cells #[.int .i64 sx, .int .i64 sy] 36))
            have T5 := Lib.hid ((T4.out.below hb).alloc (.cells #[.int .i64 sx, .int .i64 sy] 36))
            have Y5 := Lib.hid ((cur2_below Y4.out hb).alloc (.cells #[.int .i64 sx, .int .i64 sy] 36))
            have Z5 := Lib.hid (cur2_new wI (.int .i64 sx) (.int .i64 sy) 36)
            clear hb X4 H4 V4 R4 U4 S4' T4 Y4
            go_wp2_with fail
            generalize wI.alloc (.cells #[.int .i64 sx, .int .i64 sy] 36) = wJ at X5 H5 V5 R5 U5 S5 T5 Y5 Z5 ⊢
            have HQ := Lib.hid (fun u (h : Below wJ.heap.size wJ u) => s12_mk V5.out U5.out T5.out Y5.out Z5.out h)
            obtain ⟨bv, hbv⟩ : ∃ c, okC zx xp xi = c := ⟨_, rfl⟩
            have BV := Lib.hid hbv
            obtain ⟨bf, hbf⟩ : ∃ c, finB zx xp xi = c := ⟨_, rfl⟩
            have BF := Lib.hid hbf
            obtain ⟨st, hst1, hst2⟩ := NU.out.start
            have ST := Lib.hid hst2
            have SB := Lib.hid (sameB_self zy yp yi)
            have G0 := Lib.hid ((Below.refl wJ.heap.size wJ).drew)
            clear hbv hbf hst2 hst1
            go_cut [121] (fun s121 wx => s121 = .bool false ∧ Hid (Below wJ.heap.size wJ wx))
            case first =>
              refine wp_region_keeps (fun u => S12 wJ wq.heap.size (.slice xa xn xc) (.int .i64 xp) (.int .i64 xi) wB.heap.size (.slice ya yn yc) (.int .i64 yp) (.int .i64 yi) wD.heap.size (.slice va vn vc) (.int .i64 yp) (.int .i64 yi) wF.heap.size (.int .i64 sx) (.int .i64 sy) wI.heap.size (.int .i64 sx) (.int .i64 sy) u) 39 1 (by kernel_rfl) (by kernel_rfl) (HQ.out _ G0.out) (fun hHeld => ?_)
              refine wpAnyK_take (i := 0) (v := ?_) rfl (by kernel_rfl) (fun _ _ _ h => h) (Or.inl ⟨by rfl, ?_⟩) (by assumption) ?_
              rotate_left
              · (intro w hSw; (try dsimp only at hSw); go_simp; try with_reducible rfl)
              try simp only [Act.put, List.getElem_toArray, List.getElem_cons_zero, List.getElem_cons_succ, List.setIfInBounds_toArray, List.set_cons_zero, List.set_cons_succ]
              refine wpAnyK_take (i := 1) (v := ?_) rfl (by kernel_rfl) (fun _ _ _ h => h) (Or.inl ⟨by rfl, ?_⟩) (by assumption) ?_
              rotate_left
              · (intro w hSw; (try dsimp only at hSw); go_simp; try with_reducible rfl)
              try simp only [Act.put, List.getElem_toArray, List.getElem_cons_zero, List.getElem_cons_succ, List.setIfInBounds_toArray, List.set_cons_zero, List.set_cons_succ]
              refine wpAnyK_take (i := 2) (v := ?_) rfl (by kernel_rfl) (fun _ _ _ h => h) (Or.inl ⟨by rfl, ?_⟩) (by assumption) ?_
              rotate_left
              · (intro w hSw; (try dsimp only at hSw); go_simp; try with_reducible rfl)
              try simp only [Act.put, List.getElem_toArray, List.getElem_cons_zero, List.getElem_cons_succ, List.setIfInBounds_toArray, List.set_cons_zero, List.set_cons_succ]
              refine wpAnyK_take (i := 3) (v := ?_) rfl (by kernel_rfl) (fun _ _ _ h => h) (Or.inl ⟨by rfl, ?_⟩) (by assumption) ?_
              rotate_left
              · (intro w hSw; (try dsimp only at hSw); go_simp; try with_reducible rfl)
              try simp only [Act.put, List.getElem_toArray, List.getElem_cons_zero, List.getElem_cons_succ, List.setIfInBounds_toArray, List.set_cons_zero, List.set_cons_succ]
              refine wpAnyK_take (i := 4) (v := ?_) rfl (by kernel_rfl) (fun _ _ _ h => h) (Or.inl ⟨by rfl, ?_⟩) (by assumption) ?_
              rotate_left
              · (intro w hSw; (try dsimp only at hSw); go_simp; try with_reducible rfl)
              try simp only [Act.put, List.getElem_toArray, List.getElem_cons_zero, List.getElem_cons_succ, List.setIfInBounds_toArray, List.set_cons_zero, List.set_cons_succ]
              refine wpAnyK_take (i := 5) (v := ?_) rfl (by kernel_rfl) (fun _ _ _ h => h) (Or.inl ⟨by rfl, ?_⟩) (by assumption) ?_
              rotate_left
              · (intro w hSw; (try dsimp only at hSw); go_simp; try with_reducible rfl)
              try simp only [Act.put, List.getElem_toArray, List.getElem_cons_zero, List.getElem_cons_succ, List.setIfInBounds_toArray, List.set_cons_zero, List.set_cons_succ]
              refine wpAnyK_step (i := 6) rfl (by kernel_rfl) (fun K hK => ?_)
              go_simp
              refine (rsame_any ya yn yc zy yp yi va vn vc zy yp yi true SB.out _ (R5.out.under G0.out) (S5.out.under G0.out)).mono ?_
              rintro e wz0 ⟨rfl, hb⟩
              have G1 := Lib.hid (G0.out.trans (hb.mono G0.out.size))
              clear hb
              refine hK.out _ _ (HQ.out _ G1.out) (fun hHeld1 => ?_)
              clear hK K hHeld
              try simp only [Act.put, List.getElem_toArray, List.getElem_cons_zero, List.getElem_cons_succ, List.setIfInBounds_toArray, List.set_cons_zero, List.set_cons_succ]
              refine wpAnyK_take (i := 7) (v := ?_) rfl (by kernel_rfl) (fun _ _ _ h => h) (Or.inl ⟨by rfl, ?_⟩) (by assumption) ?_
              rotate_left
              · (intro w hSw; (try dsimp only at hSw); go_simp; try with_reducible rfl)
              try simp only [Act.put, List.getElem_toArray, List.getElem_cons_zero, List.getElem_cons_succ, List.setIfInBounds_toArray, List.set_cons_zero, List.set_cons_succ]
              refine wpAnyK_take (i := 8) (v := ?_) rfl (by kernel_rfl) (fun _ _ _ h => h) (Or.inl ⟨by rfl, ?_⟩) (by assumption) ?_
              rotate_left
              · (intro w hSw; (try dsimp only at hSw); go_simp; try with_reducible rfl)
              try simp only [Act.put, List.getElem_toArray, List.getElem_cons_zero, List.getElem_cons_succ, List.setIfInBounds_toArray, List.set_cons_zero, List.set_cons_succ]
              refine wpAnyK_take (i := 9) (v := ?_) rfl (by kernel_rfl) (fun _ _ _ h => h) (Or.inl ⟨by rfl, ?_⟩) (by assumption) ?_
              rotate_left
              · (intro w hSw; (try dsimp only at hSw); go_simp; try with_reducible rfl)
              try simp only [Act.put, List.getElem_toArray, List.getElem_cons_zero, List.getElem_cons_succ, List.setIfInBounds_toArray, List.set_cons_zero, List.set_cons_succ]
              refine wpAnyK_take (i := 10) (v := ?_) rfl (by kernel_rfl) (fun _ _ _ h => h) (Or.inl ⟨by rfl, ?_⟩) (by assumption) ?_
              rotate_left
              · (intro w hSw; (try dsimp only at hSw); go_simp; try with_reducible rfl)
              try simp only [Act.put, List.getElem_toArray, List.getElem_cons_zero, List.getElem_cons_succ, List.setIfInBounds_toArray, List.set_cons_zero, List.set_cons_succ]
              refine wpAnyK_take (i := 12) (v := ?_) rfl (by kernel_rfl) (fun _ _ _ h => h) (Or.inl ⟨by rfl, ?_⟩) (by assumption) ?_
              rotate_left
              · (intro w hSw; (try dsimp only at hSw); go_simp; try with_reducible rfl)
              try simp only [Act.put, List.getElem_toArray, List.getElem_cons_zero, List.getElem_cons_succ, List.setIfInBounds_toArray, List.set_cons_zero, List.set_cons_succ]
              refine wpAnyK_step (i := 11) rfl (by kernel_rfl) (fun K hK => ?_)
              go_simp
              refine (valid_any xa xn xc zx xp xi HXI.out.1 HXI.out.2 bv BV.out _ (X5.out.row.under G1.out)).mono ?_
              rintro e wz1 ⟨rfl, hb⟩
              have G2 := Lib.hid (G1.out.trans (hb.mono G1.out.size))
              clear hb
              refine hK.out _ _ (HQ.out _ G2.out) (fun hHeld2 => ?_)
              clear hK K hHeld1
              try simp only [Act.put, List.getElem_toArray, List.getElem_cons_zero, List.getElem_cons_succ, List.setIfInBounds_toArray, List.set_cons_zero, List.set_cons_succ]
              refine wpAnyK_step (i := 13) rfl (by kernel_rfl) (fun K hK => ?_)
              go_simp
              refine (rvalid_any xa xn xc zx xp xi HXI.out.1 HXI.out.2 bv BV.out _ (X5.out.row.under G2.out)).mono ?_
              rintro e wz2 ⟨rfl, hb⟩
              have G3 := Lib.hid (G2.out.trans (hb.mono G2.out.size))
              clear hb
              refine hK.out _ _ (HQ.out _ G3.out) (fun hHeld3 => ?_)
              clear hK K hHeld2
              try simp only [Act.put, List.getElem_toArray, List.getElem_cons_zero, List.getElem_cons_succ, List.setIfInBounds_toArray, List.set_cons_zero, List.set_cons_succ]
              refine wpAnyK_take (i := 14) (v := ?_) rfl (by kernel_rfl) (fun _ _ _ h => h) (Or.inl ⟨by rfl, ?_⟩) (by assumption) ?_
              rotate_left
              · (intro w hSw; (try dsimp only at hSw); go_simp; try with_reducible rfl)
              try simp only [Act.put, List.getElem_toArray, List.getElem_cons_zero, List.getElem_cons_succ, List.setIfInBounds_toArray, List.set_cons_zero, List.set_cons_succ]
              refine wpAnyK_take (i := 15) (v := ?_) rfl (by kernel_rfl) (fun _ _ _ h => h) (Or.inl ⟨by rfl, ?_⟩) (by assumption) ?_
              rotate_left
              · (intro w hSw; (try dsimp only at hSw); go_simp; try with_reducible rfl)
              try simp only [Act.put, List.getElem_toArray, List.getElem_cons_zero, List.getElem_cons_succ, List.setIfInBounds_toArray, List.set_cons_zero, List.set_cons_succ]
              refine wpAnyK_take (i := 16) (v := ?_) rfl (by kernel_rfl) (fun _ _ _ h => h) (Or.inl ⟨by rfl, ?_⟩) (by assumption) ?_
              rotate_left
              · (intro w hSw; (try dsimp only at hSw); go_simp; try with_reducible rfl)
              try simp only [Act.put, List.getElem_toArray, List.getElem_cons_zero, List.getElem_cons_succ, List.setIfInBounds_toArray, List.set_cons_zero, List.set_cons_succ]
              refine wpAnyK_take (i := 17) (v := ?_) rfl (by kernel_rfl) (fun _ _ _ h => h) (Or.inl ⟨by rfl, ?_⟩) (by assumption) ?_
              rotate_left
              · (intro w hSw; (try dsimp only at hSw); go_simp; try with_reducible rfl)
              try simp only [Act.put, List.getElem_toArray, List.getElem_cons_zero, List.getElem_cons_succ, List.setIfInBounds_toArray, List.set_cons_zero, List.set_cons_succ]
              refine wpAnyK_take (i := 19) (v := ?_) rfl (by kernel_rfl) (fun _ _ _ h => h) (Or.inl ⟨by rfl, ?_⟩) (by assumption) ?_
              rotate_left
              · (intro w hSw; (try dsimp only at hSw); go_simp; try with_reducible rfl)
              try simp only [Act.put, List.getElem_toArray, List.getElem_cons_zero, List.getElem_cons_succ, List.setIfInBounds_toArray, List.set_cons_zero, List.set_cons_succ]
              refine wpAnyK_step (i := 18) rfl (by kernel_rfl) (fun K hK => ?_)
              go_simp
              refine (finite_any xa xn xc zx xp xi HXI.out.1 HXI.out.2 bf BF.out _ (X5.out.row.under G3.out)).mono ?_
              rintro e wz3 ⟨rfl, hb⟩
              have G4 := Lib.hid (G3.out.trans (hb.mono G3.out.size))
              clear hb
              refine hK.out _ _ (HQ.out _ G4.out) (fun hHeld4 => ?_)
              clear hK K hHeld3
              try simp only [Act.put, List.getElem_toArray, List.getElem_cons_zero, List.getElem_cons_succ, List.setIfInBounds_toArray, List.set_cons_zero, List.set_cons_succ]
              refine wpAnyK_step (i := 20) rfl (by kernel_rfl) (fun K hK => ?_)
              go_simp
              refine (rfinite_any xa xn xc zx xp xi HXI.out.1 HXI.out.2 bf BF.out _ (X5.out.row.under G4.out)).mono ?_
              rintro e wz4 ⟨rfl, hb⟩
              have G5 := Lib.hid (G4.out.trans (hb.mono G4.out.size))
              clear hb
              refine hK.out _ _ (HQ.out _ G5.out) (fun hHeld5 => ?_)
              clear hK K hHeld4
              try simp only [Act.put, List.getElem_toArray, List.getElem_cons_zero, List.getElem_cons_succ, List.setIfInBounds_toArray, List.set_cons_zero, List.set_cons_succ]
              refine wpAnyK_take (i := 21) (v := ?_) rfl (by kernel_rfl) (fun _ _ _ h => h) (Or.inl ⟨by rfl, ?_⟩) (by assumption) ?_
              rotate_left
              · (intro w hSw; (try dsimp only at hSw); go_simp; try with_reducible rfl)
              try simp only [Act.put, List.getElem_toArray, List.getElem_cons_zero, List.getElem_cons_succ, List.setIfInBounds_toArray, List.set_cons_zero, List.set_cons_succ]
              refine wpAnyK_take (i := 22) (v := ?_) rfl (by kernel_rfl) (fun _ _ _ h => h) (Or.inl ⟨by rfl, ?_⟩) (by assumption) ?_
              rotate_left
              · (intro w hSw; (try dsimp only at hSw); go_simp; try with_reducible rfl)
              try simp only [Act.put, List.getElem_toArray, List.getElem_cons_zero, List.getElem_cons_succ, List.setIfInBounds_toArray, List.set_cons_zero, List.set_cons_succ]
              refine wpAnyK_take (i := 23) (v := ?_) rfl (by kernel_rfl) (fun _ _ _ h => h) (Or.inl ⟨by rfl, ?_⟩) (by assumption) ?_
              rotate_left
              · (intro w hSw; (try dsimp only at hSw); go_simp; try with_reducible rfl)
              try simp only [Act.put, List.getElem_toArray, List.getElem_cons_zero, List.getElem_cons_succ, List.setIfInBounds_toArray, List.set_cons_zero, List.set_cons_succ]
              refine wpAnyK_take (i := 24) (v := ?_) rfl (by kernel_rfl) (fun _ _ _ h => h) (Or.inl ⟨by rfl, ?_⟩) (by assumption) ?_
              rotate_left
              · (intro w hSw; (try dsimp only at hSw); go_simp; try with_reducible rfl)
              try simp only [Act.put, List.getElem_toArray, List.getElem_cons_zero, List.getElem_cons_succ, List.setIfInBounds_toArray, List.set_cons_zero, List.set_cons_succ]
              refine wpAnyK_take (i := 26) (v := ?_) rfl (by kernel_rfl) (fun _ _ _ h => h) (Or.inl ⟨by rfl, ?_⟩) (by assumption) ?_
              rotate_left
              · (intro w hSw; (try dsimp only at hSw); go_simp; try with_reducible rfl)
              try simp only [Act.put, List.getElem_toArray, List.getElem_cons_zero, List.getElem_cons_succ, List.setIfInBounds_toArray, List.set_cons_zero, List.set_cons_succ]
              refine wpAnyK_step (i := 25) rfl (by kernel_rfl) (fun K hK => ?_)
              go_simp
              refine (start_u xa xn xc zx xp xi HXI.out.1 HXI.out.2 NU.out st ST.out _ (X5.out.row.under G5.out)).mono ?_
              rintro e wz5 ⟨rfl, hb⟩
              have G6 := Lib.hid (G5.out.trans (hb.mono G5.out.size))
              clear hb
              refine hK.out _ _ (HQ.out _ G6.out) (fun hHeld6 => ?_)
              clear hK K hHeld5
              try simp only [Act.put, List.getElem_toArray, List.getElem_cons_zero, List.getElem_cons_succ, List.setIfInBounds_toArray, List.set_cons_zero, List.set_cons_succ]
              refine wpAnyK_step (i := 27) rfl (by kernel_rfl) (fun K hK => ?_)
              go_simp
              refine (rstart_u xa xn xc zx xp xi HXI.out.1 HXI.out.2 NU.out st ST.out _ (X5.out.row.under G6.out)).mono ?_
              rintro e wz6 ⟨rfl, hb⟩
              have G7 := Lib.hid (G6.out.trans (hb.mono G6.out.size))
              clear hb
              refine hK.out _ _ (HQ.out _ G7.out) (fun hHeld7 => ?_)
              clear hK K hHeld6
              try simp only [Act.put, List.getElem_toArray, List.getElem_cons_zero, List.getElem_cons_succ, List.setIfInBounds_toArray, List.set_cons_zero, List.set_cons_succ]
              refine wpAnyK_take (i := 28) (v := ?_) rfl (by kernel_rfl) (fun _ _ _ h => h) (Or.inl ⟨by rfl, ?_⟩) (by assumption) ?_
              rotate_left
              · (intro w hSw; (try dsimp only at hSw); go_simp; try with_reducible rfl)
              try simp only [Act.put, List.getElem_toArray, List.getElem_cons_zero, List.getElem_cons_succ, List.setIfInBounds_toArray, List.set_cons_zero, List.set_cons_succ]
              refine wpAnyK_take (i := 29) (v := ?_) rfl (by kernel_rfl) (fun _ _ _ h => h) (Or.inl ⟨by rfl, ?_⟩) (by assumption) ?_
              rotate_left
              · (intro w hSw; (try dsimp only at hSw); go_simp; try with_reducible rfl)
              try simp only [Act.put, List.getElem_toArray, List.getElem_cons_zero, List.getElem_cons_succ, List.setIfInBounds_toArray, List.set_cons_zero, List.set_cons_succ]
              refine wpAnyK_take (i := 30) (v := ?_) rfl (by kernel_rfl) (fun _ _ _ h => h) (Or.inl ⟨by rfl, ?_⟩) (by assumption) ?_
              rotate_left
              · (intro w hSw; (try dsimp only at hSw); go_simp; try with_reducible rfl)
              try simp only [Act.put, List.getElem_toArray, List.getElem_cons_zero, List.getElem_cons_succ, List.setIfInBounds_toArray, List.set_cons_zero, List.set_cons_succ]
              refine wpAnyK_take (i := 31) (v := ?_) rfl (by kernel_rfl) (fun _ _ _ h => h) (Or.inl ⟨by rfl, ?_⟩) (by assumption) ?_
              rotate_left
              · (intro w hSw; (try dsimp only at hSw); go_simp; try with_reducible rfl)
              try simp only [Act.put, List.getElem_toArray, List.getElem_cons_zero, List.getElem_cons_succ, List.setIfInBounds_toArray, List.set_cons_zero, List.set_cons_succ]
              refine wpAnyK_take (i := 32) (v := ?_) rfl (by kernel_rfl) (fun _ _ _ h => h) (Or.inl ⟨by rfl, ?_⟩) (by assumption) ?_
              rotate_left
              · (intro w hSw; (try dsimp only at hSw); go_simp; try with_reducible rfl)
              try simp only [Act.put, List.getElem_toArray, List.getElem_cons_zero, List.getElem_cons_succ, List.setIfInBounds_toArray, List.set_cons_zero, List.set_cons_succ]
              refine wpAnyK_take (i := 33) (v := ?_) rfl (by kernel_rfl) (fun _ _ _ h => h) (Or.inl ⟨by rfl, ?_⟩) (by assumption) ?_
              rotate_left
              · (intro w hSw; (try dsimp only at hSw); go_simp; try with_reducible rfl)
              try simp only [Act.put, List.getElem_toArray, List.getElem_cons_zero, List.getElem_cons_succ, List.setIfInBounds_toArray, List.set_cons_zero, List.set_cons_succ]
              refine wpAnyK_take (i := 34) (v := ?_) rfl (by kernel_rfl) (fun _ _ _ h => h) (Or.inl ⟨by rfl, ?_⟩) (by assumption) ?_
              rotate_left
              · (intro w hSw; (try dsimp only at hSw); go_simp; try with_reducible rfl)
              try simp only [Act.put, List.getElem_toArray, List.getElem_cons_zero, List.getElem_cons_succ, List.setIfInBounds_toArray, List.set_cons_zero, List.set_cons_succ]
              refine wpAnyK_take (i := 35) (v := ?_) rfl (by kernel_rfl) (fun _ _ _ h => h) (Or.inl ⟨by rfl, ?_⟩) (by assumption) ?_
              rotate_left
              · (intro w hSw; (try dsimp only at hSw); go_simp; try with_reducible rfl)
              try simp only [Act.put, List.getElem_toArray, List.getElem_cons_zero, List.getElem_cons_succ, List.setIfInBounds_toArray, List.set_cons_zero, List.set_cons_succ]
              refine wpAnyK_take (i := 36) (v := ?_) rfl (by kernel_rfl) (fun _ _ _ h => h) (Or.inl ⟨by rfl, ?_⟩) (by assumption) ?_
              rotate_left
              · (intro w hSw; (try dsimp only at hSw); go_simp; try with_reducible rfl)
              try simp only [Act.put, List.getElem_toArray, List.getElem_cons_zero, List.getElem_cons_succ, List.setIfInBounds_toArray, List.set_cons_zero, List.set_cons_succ]
              refine wpAnyK_take (i := 37) (v := ?_) rfl (by kernel_rfl) (fun _ _ _ h => h) (Or.inl ⟨by rfl, ?_⟩) (by assumption) ?_
              rotate_left
              · (intro w hSw; (try dsimp only at hSw); go_simp; try with_reducible rfl)
              try simp only [Act.put, List.getElem_toArray, List.getElem_cons_zero, List.getElem_cons_succ, List.setIfInBounds_toArray, List.set_cons_zero, List.set_cons_succ]
              refine wpAnyK_take (i := 38) (v := ?_) rfl (by kernel_rfl) (fun _ _ _ h => h) (Or.inl ⟨by rfl, ?_⟩) (by assumption) ?_
              rotate_left
              · (intro w hSw; (try dsimp only at hSw); go_simp; try with_reducible rfl)
              try simp only [Act.put, List.getElem_toArray, List.getElem_cons_zero, List.getElem_cons_succ, List.setIfInBounds_toArray, List.set_cons_zero, List.set_cons_succ]
              refine wpAnyK_done (by kernel_rfl) ?_
              simp only [List.drop_succ_cons, List.drop_zero]
              clear hHeld7
              go_wp2_with fail
              go_meet
              exact ⟨rfl, G7⟩
            case rest =>
              obtain ⟨rfl, GJ⟩ := hcut
              obtain ⟨w10, rfl⟩ : ∃ u : World, u = wc := ⟨_, rfl⟩
              have X6 := Lib.hid (X5.out.below GJ.out)
              have H6 := Lib.hid (H5.out.below GJ.out)
              have V6 := Lib.hid (V5.out.below GJ.out)
              have hFb : ¬ wq.heap.size = b := by have := HS9.out.lt; omega
              clear X5 H5 V5 R5 U5 S5 T5 Y5 Z5 HQ SL NU BV BF SB G0 HCO GJ ST hF13
              go_wp2_with fail
              refine (n_any 40 (by omega) (by omega) b ra rn rc _ (H6.out.at HS9.out)).mono ?_
              rintro e w11 ⟨m, hm, rfl, hs, he⟩
              have HM := Lib.hid (show In64 m from ⟨by omega, by omega⟩)
              have H7 := Lib.hid ((H6.out.call hs he.apart).alloc (.cells #[.int .i64 (-1), .int .i64 1048576, .int .i64 1048577] 3))
              have X7 := Lib.hid ((X6.out.apart he.apart).below ((Below.refl _ _).alloc (Nat.le_refl _) (.cells #[.int .i64 (-1), .int .i64 1048576, .int .i64 1048577] 3)))
              have V7 := Lib.hid ((V6.out.apart he.apart hFb).alloc (.cells #[.int .i64 (-1), .int .i64 1048576, .int .i64 1048577] 3))
              have N7 := Lib.hid (show ∀ i, i < 3 → ∃ z, (w11.alloc (.cells #[.int .i64 (-1), .int .i64 1048576, .int .i64 1048577] 3)).cell? ⟨w11.heap.size, i, none⟩ = some (.int .i64 z) ∧ In64 z from three_cells ⟨by omega, by omega⟩ ⟨by omega, by omega⟩ ⟨by omega, by omega⟩)
              have hPb : w11.heap.size ≠ b := by have := hs.lt; omega
              clear hs he hm X6 H6 V6
              go_wp2_with fail
              generalize w11.alloc (.cells #[.int .i64 (-1), .int .i64 1048576, .int .i64 1048577] 3) = w12 at H7 X7 V7 N7 ⊢
              refine (pick_of In64 (fun _ h => h) w11.heap.size 3 3 (by omega) (by omega) b hPb ra rn rc _ (H7.out.at HS9.out) N7.out).mono ?_
              rintro e w13 ⟨z, hz, rfl, hs, ha⟩
              have H8 := Lib.hid ((H7.out.call hs ha).alloc (.cells #[.int .i64 t, .int .i64 m, .int .i64 z] 3))
              have X8 := Lib.hid ((X7.out.apart ha).below ((Below.refl _ _).alloc (Nat.le_refl _) (.cells #[.int .i64 t, .int .i64 m, .int .i64 z] 3)))
              have V8 := Lib.hid ((V7.out.apart ha hFb).alloc (.cells #[.int .i64 t, .int .i64 m, .int .i64 z] 3))
              have N8 := Lib.hid (show ∀ i, i < 3 → ∃ y, (w13.alloc (.cells #[.int .i64 t, .int .i64 m, .int .i64 z] 3)).cell? ⟨w13.heap.size, i, none⟩ = some (.int .i64 y) ∧ In64 y from three_cells HT.out HM.out hz)
              have hQb : ¬ w13.heap.size = b := by have := hs.lt; omega
              clear hs ha hz X7 H7 V7 N7 HM
              go_wp2_with fail
              generalize w13.alloc (.cells #[.int .i64 t, .int .i64 m, .int .i64 z] 3) = w14 at H8 X8 V8 N8 ⊢
              have HS14 := Lib.hid (H8.out.at HS9.out)
              go_loopw [130] (fun s130 wx => ∃ j : Nat, s130 = .int .i64 (j : Int) ∧ j ≤ 3 ∧ Hid (Held w14 b ra rn rc wx)) (fun s130 _ => 3 - (intOf s130).toNat)
              case atStart => exact ⟨0, rfl, by omega, Held.start HS14.out⟩
              case round =>
                obtain ⟨j, rfl, hj3, HJ⟩ := hrel
                obtain ⟨w15, rfl⟩ : ∃ u : World, u = wr := ⟨_, rfl⟩
                by_cases hj : j < 3
                · obtain ⟨y, hcy, hy⟩ := N8.out j hj
                  have hcy := (World.cell?_of_block (w := w14) (HJ.out.ap.block _ (lt_of_cell hcy) hQb)).trans hcy
                  have q2 : (0 : Int) ≤ (j : Int) := by omega
                  have q3 : (j : Int) < 3 := by omega
                  obtain ⟨v, c, hvu⟩ := valU_ex zx xp xi y
                  have VU := Lib.hid hvu
                  obtain ⟨c0, c1, c2, f0, f1, f2⟩ := V8.out.apart HJ.out.ap hFb
                  clear hvu
                  go_wp2_with fail
                  clear c0 c1 c2 f0 f1 f2 hcy
                  refine (value_u xa xn xc zx xp xi HXI.out.1 HXI.out.2 y v c VU.out _ (X8.out.apart HJ.out.ap).row).mono ?_
                  rintro e w16 ⟨rfl, hb⟩
                  have HJ2 := Lib.hid (HJ.out.below hb)
                  obtain ⟨c0, c1, c2, f0, f1, f2⟩ := V8.out.apart HJ2.out.ap hFb
                  clear hb
                  go_wp2_with fail
                  clear c0 c1 c2 f0 f1 f2
                  refine (rvalue_u xa xn xc zx xp xi HXI.out.1 HXI.out.2 y v c VU.out _ (X8.out.apart HJ2.out.ap).row).mono ?_
                  rintro e w17 ⟨rfl, hb⟩
                  have HJ3 := Lib.hid (HJ2.out.below hb)
                  clear hb
                  go_wp2_with fail
                  go_roundw
                  case rel => exact ⟨j + 1, by go_num, by omega, HJ3⟩
                  case measure => simp [intOf]; omega
                · have q3 : ¬ (j : Int) < 3 := by omega
                  have H9 := Lib.hid (show Held w9 b ra rn rc w15 from ⟨HJ.out.src, H8.out.ap.trans HJ.out.ap⟩)
                  have X9 := Lib.hid (X8.out.apart HJ.out.ap)
                  have V9 := Lib.hid (V8.out.apart HJ.out.ap hFb)
                  have CU := Lib.hid (curs3 (t := 24) (hCF.out.apart H9.out.ap) (hCG.out.apart H9.out.ap) (hCO.out.apart H9.out.ap))
                  obtain ⟨c0, c1, c2, f0, f1, f2⟩ := hB10.out.apart H9.out.ap h10b
                  obtain ⟨d0, d1, d2, g0, g1, g2⟩ := hB11.out.apart H9.out.ap h11b
                  obtain ⟨e0, e1, e2, k0, k1, k2⟩ := hB5.out.apart H9.out.ap h5b
                  have hRb : ¬ w15.heap.size = b := by have := H9.out.lt; omega
                  have H10 := Lib.hid (H9.out.alloc (.cells #[.slice a1 n1 cap1, .int .i64 p, .int .i64 inc, .slice a2 n2 cap2, .int .i64 q, .int .i64 jnc, .slice aO nO cO, .int .i64 pO, .int .i64 iO] 24))
                  have X10 := Lib.hid (X9.out.below ((Below.refl _ _).alloc (Nat.le_refl _) (.cells #[.slice a1 n1 cap1, .int .i64 p, .int .i64 inc, .slice a2 n2 cap2, .int .i64 q, .int .i64 jnc, .slice aO nO cO, .int .i64 pO, .int .i64 iO] 24)))
                  have V10 := Lib.hid (V9.out.alloc (.cells #[.slice a1 n1 cap1, .int .i64 p, .int .i64 inc, .slice a2 n2 cap2, .int .i64 q, .int .i64 jnc, .slice aO nO cO, .int .i64 pO, .int .i64 iO] 24))
                  clear HS14 HJ H8 X8 V8 N8 H9 X9 V9
                  go_wp2_with fail
                  clear c0 c1 c2 f0 f1 f2 d0 d1 d2 g0 g1 g2 e0 e1 e2 k0 k1 k2
                  generalize w15.alloc (.cells #[.slice a1 n1 cap1, .int .i64 p, .int .i64 inc, .slice a2 n2 cap2, .int .i64 q, .int .i64 jnc, .slice aO nO cO, .int .i64 pO, .int .i64 iO] 24) = w18 at CU H10 X10 V10 ⊢
                  have HS18 := Lib.hid (H10.out.at HS9.out)
                  go_loopw [160] (fun s160 wx => ∃ j : Nat, s160 = .int .i64 (j : Int) ∧ j ≤ 3 ∧ Hid (Held w18 b ra rn rc wx)) (fun s160 _ => 3 - (intOf s160).toNat)
                  case atStart => exact ⟨0, rfl, by omega, Held.start HS18.out⟩
                  case round =>
                    obtain ⟨l, rfl, hl3, HJ⟩ := hrel
                    obtain ⟨w19, rfl⟩ : ∃ u : World, u = wr := ⟨_, rfl⟩
                    by_cases hl : l < 3
                    · obtain ⟨ua, un, uc, zu, up, ui, CY, hc0, hc1, hc2⟩ := CU.out.apart HJ.out.ap hRb l hl
                      have q4 : (0 : Int) ≤ (l : Int) := by omega
                      have q5 : (l : Int) < 3 := by omega
                      have Y1 := Lib.hid (CY.below ((Below.refl _ _).alloc (Nat.le_refl _) (.cells #[.slice ua un uc, .int .i64 up, .int .i64 ui] 24)))
                      have HYI := Lib.hid (And.intro CY.ip CY.ii)
                      have YB := Lib.hid (Cur3.new w19 (.slice ua un uc) (.int .i64 up) (.int .i64 ui) 24)
                      have X11 := Lib.hid ((X10.out.apart HJ.out.ap).below ((Below.refl _ _).alloc (Nat.le_refl _) (.cells #[.slice ua un uc, .int .i64 up, .int .i64 ui] 24)))
                      have V11 := Lib.hid ((V10.out.apart HJ.out.ap hFb).alloc (.cells #[.slice ua un uc, .int .i64 up, .int .i64 ui] 24))
                      have HJ1 := Lib.hid (HJ.out.alloc (.cells #[.slice ua un uc, .int .i64 up, .int .i64 ui] 24))
                      clear CY
                      go_wp2_with fail
                      clear hc0 hc1 hc2
                      generalize w19.alloc (.cells #[.slice ua un uc, .int .i64 up, .int .i64 ui] 24) = w20 at Y1 YB X11 V11 HJ1 ⊢
                      have HQ := Lib.hid (fun u (h : Below w20.heap.size w20 u) => s6_mk V11.out YB.out h)
                      obtain ⟨sm, hsm⟩ : ∃ c, sameB zx xp xi zu up ui = c := ⟨_, rfl⟩
                      have SM := Lib.hid hsm
                      obtain ⟨eb, heb⟩ := eqU_ex zx xp xi zu up ui
                      have EB := Lib.hid heb
                      have G0 := Lib.hid ((Below.refl w20.heap.size w20).drew)
                      clear hsm heb
                      go_cut [179] (fun s179 wx => s179 = .bool false ∧ Hid (Below w20.heap.size w20 wx))
                      case first =>
                        refine wp_region_keeps (fun u => S6 w20 wq.heap.size (.slice xa xn xc) (.int .i64 xp) (.int .i64 xi) w19.heap.size (.slice ua un uc) (.int .i64 up) (.int .i64 ui) u) 15 1 (by kernel_rfl) (by kernel_rfl) (HQ.out _ G0.out) (fun hHeld => ?_)
                        refine wpAnyK_take (i := 0) (v := ?_) rfl (by kernel_rfl) (fun _ _ _ h => h) (Or.inl ⟨by rfl, ?_⟩) (by assumption) ?_
                        rotate_left
                        · (intro w hSw; (try dsimp only at hSw); go_simp; try with_reducible rfl)
                        try simp only [Act.put, List.getElem_toArray, List.getElem_cons_zero, List.getElem_cons_succ, List.setIfInBounds_toArray, List.set_cons_zero, List.set_cons_succ]
                        refine wpAnyK_take (i := 1) (v := ?_) rfl (by kernel_rfl) (fun _ _ _ h => h) (Or.inl ⟨by rfl, ?_⟩) (by assumption) ?_
                        rotate_left
                        · (intro w hSw; (try dsimp only at hSw); go_simp; try with_reducible rfl)
                        try simp only [Act.put, List.getElem_toArray, List.getElem_cons_zero, List.getElem_cons_succ, List.setIfInBounds_toArray, List.set_cons_zero, List.set_cons_succ]
                        refine wpAnyK_take (i := 3) (v := ?_) rfl (by kernel_rfl) (fun _ _ _ h => h) (Or.inl ⟨by rfl, ?_⟩) (by assumption) ?_
                        rotate_left
                        · (intro w hSw; (try dsimp only at hSw); go_simp; try with_reducible rfl)
                        try simp only [Act.put, List.getElem_toArray, List.getElem_cons_zero, List.getElem_cons_succ, List.setIfInBounds_toArray, List.set_cons_zero, List.set_cons_succ]
                        refine wpAnyK_take (i := 4) (v := ?_) rfl (by kernel_rfl) (fun _ _ _ h => h) (Or.inl ⟨by rfl, ?_⟩) (by assumption) ?_
                        rotate_left
                        · (intro w hSw; (try dsimp only at hSw); go_simp; try with_reducible rfl)
                        try simp only [Act.put, List.getElem_toArray, List.getElem_cons_zero, List.getElem_cons_succ, List.setIfInBounds_toArray, List.set_cons_zero, List.set_cons_succ]
                        refine wpAnyK_step (i := 2) rfl (by kernel_rfl) (fun K hK => ?_)
                        go_simp
                        refine (same_any xa xn xc zx xp xi ua un uc zu up ui sm SM.out _ (X11.out.row.under G0.out) (Y1.out.row.under G0.out)).mono ?_
                        rintro e wz0 ⟨rfl, hb⟩
                        have G1 := Lib.hid (G0.out.trans (hb.mono G0.out.size))
                        clear hb
                        refine hK.out _ _ (HQ.out _ G1.out) (fun hHeld1 => ?_)
                        clear hK K hHeld
                        try simp only [Act.put, List.getElem_toArray, List.getElem_cons_zero, List.getElem_cons_succ, List.setIfInBounds_toArray, List.set_cons_zero, List.set_cons_succ]
                        refine wpAnyK_step (i := 5) rfl (by kernel_rfl) (fun K hK => ?_)
                        go_simp
                        refine (rsame_any xa xn xc zx xp xi ua un uc zu up ui sm SM.out _ (X11.out.row.under G1.out) (Y1.out.row.under G1.out)).mono ?_
                        rintro e wz1 ⟨rfl, hb⟩
                        have G2 := Lib.hid (G1.out.trans (hb.mono G1.out.size))
                        clear hb
                        refine hK.out _ _ (HQ.out _ G2.out) (fun hHeld2 => ?_)
                        clear hK K hHeld1
                        try simp only [Act.put, List.getElem_toArray, List.getElem_cons_zero, List.getElem_cons_succ, List.setIfInBounds_toArray, List.set_cons_zero, List.set_cons_succ]
                        refine wpAnyK_take (i := 6) (v := ?_) rfl (by kernel_rfl) (fun _ _ _ h => h) (Or.inl ⟨by rfl, ?_⟩) (by assumption) ?_
                        rotate_left
                        · (intro w hSw; (try dsimp only at hSw); go_simp; try with_reducible rfl)
                        try simp only [Act.put, List.getElem_toArray, List.getElem_cons_zero, List.getElem_cons_succ, List.setIfInBounds_toArray, List.set_cons_zero, List.set_cons_succ]
                        refine wpAnyK_take (i := 7) (v := ?_) rfl (by kernel_rfl) (fun _ _ _ h => h) (Or.inl ⟨by rfl, ?_⟩) (by assumption) ?_
                        rotate_left
                        · (intro w hSw; (try dsimp only at hSw); go_simp; try with_reducible rfl)
                        try simp only [Act.put, List.getElem_toArray, List.getElem_cons_zero, List.getElem_cons_succ, List.setIfInBounds_toArray, List.set_cons_zero, List.set_cons_succ]
                        refine wpAnyK_take (i := 8) (v := ?_) rfl (by kernel_rfl) (fun _ _ _ h => h) (Or.inl ⟨by rfl, ?_⟩) (by assumption) ?_
                        rotate_left
                        · (intro w hSw; (try dsimp only at hSw); go_simp; try with_reducible rfl)
                        try simp only [Act.put, List.getElem_toArray, List.getElem_cons_zero, List.getElem_cons_succ, List.setIfInBounds_toArray, List.set_cons_zero, List.set_cons_succ]
                        refine wpAnyK_take (i := 9) (v := ?_) rfl (by kernel_rfl) (fun _ _ _ h => h) (Or.inl ⟨by rfl, ?_⟩) (by assumption) ?_
                        rotate_left
                        · (intro w hSw; (try dsimp only at hSw); go_simp; try with_reducible rfl)
                        try simp only [Act.put, List.getElem_toArray, List.getElem_cons_zero, List.getElem_cons_succ, List.setIfInBounds_toArray, List.set_cons_zero, List.set_cons_succ]
                        refine wpAnyK_take (i := 11) (v := ?_) rfl (by kernel_rfl) (fun _ _ _ h => h) (Or.inl ⟨by rfl, ?_⟩) (by assumption) ?_
                        rotate_left
                        · (intro w hSw; (try dsimp only at hSw); go_simp; try with_reducible rfl)
                        try simp only [Act.put, List.getElem_toArray, List.getElem_cons_zero, List.getElem_cons_succ, List.setIfInBounds_toArray, List.set_cons_zero, List.set_cons_succ]
                        refine wpAnyK_take (i := 12) (v := ?_) rfl (by kernel_rfl) (fun _ _ _ h => h) (Or.inl ⟨by rfl, ?_⟩) (by assumption) ?_
                        rotate_left
                        · (intro w hSw; (try dsimp only at hSw); go_simp; try with_reducible rfl)
                        try simp only [Act.put, List.getElem_toArray, List.getElem_cons_zero, List.getElem_cons_succ, List.setIfInBounds_toArray, List.set_cons_zero, List.set_cons_succ]
                        refine wpAnyK_step (i := 10) rfl (by kernel_rfl) (fun K hK => ?_)
                        go_simp
                        refine (equal_u xa xn xc zx xp xi HXI.out.1 HXI.out.2 ua un uc zu up ui HYI.out.1 HYI.out.2 eb EB.out _ (X11.out.row.under G2.out) (Y1.out.row.under G2.out)).mono ?_
                        rintro e wz2 ⟨rfl, hb⟩
                        have G3 := Lib.hid (G2.out.trans (hb.mono G2.out.size))
                        clear hb
                        refine hK.out _ _ (HQ.out _ G3.out) (fun hHeld3 => ?_)
                        clear hK K hHeld2
                        try simp only [Act.put, List.getElem_toArray, List.getElem_cons_zero, List.getElem_cons_succ, List.setIfInBounds_toArray, List.set_cons_zero, List.set_cons_succ]
                        refine wpAnyK_step (i := 13) rfl (by kernel_rfl) (fun K hK => ?_)
                        go_simp
                        refine (requal_u xa xn xc zx xp xi HXI.out.1 HXI.out.2 ua un uc zu up ui HYI.out.1 HYI.out.2 eb EB.out _ (X11.out.row.under G3.out) (Y1.out.row.under G3.out)).mono ?_
                        rintro e wz3 ⟨rfl, hb⟩
                        have G4 := Lib.hid (G3.out.trans (hb.mono G3.out.size))
                        clear hb
                        refine hK.out _ _ (HQ.out _ G4.out) (fun hHeld4 => ?_)
                        clear hK K hHeld3
                        try simp only [Act.put, List.getElem_toArray, List.getElem_cons_zero, List.getElem_cons_succ, List.setIfInBounds_toArray, List.set_cons_zero, List.set_cons_succ]
                        refine wpAnyK_take (i := 14) (v := ?_) rfl (by kernel_rfl) (fun _ _ _ h => h) (Or.inl ⟨by rfl, ?_⟩) (by assumption) ?_
                        rotate_left
                        · (intro w hSw; (try dsimp only at hSw); go_simp; try with_reducible rfl)
                        try simp only [Act.put, List.getElem_toArray, List.getElem_cons_zero, List.getElem_cons_succ, List.setIfInBounds_toArray, List.set_cons_zero, List.set_cons_succ]
                        refine wpAnyK_done (by kernel_rfl) ?_
                        simp only [List.drop_succ_cons, List.drop_zero]
                        clear hHeld4
                        go_wp2_with fail
                        go_meet
                        exact ⟨rfl, G4⟩
                      case rest =>
                        obtain ⟨rfl, GJ⟩ := hcut
                        obtain ⟨w21, rfl⟩ : ∃ u : World, u = wc := ⟨_, rfl⟩
                        have HJ2 := Lib.hid (HJ1.out.below GJ.out)
                        go_wp2_with fail
                        go_roundw
                        case rel => exact ⟨l + 1, by go_num, by omega, HJ2⟩
                        case measure => simp [intOf]; omega
                    · have q5 : ¬ (l : Int) < 3 := by omega
                      have HE := Lib.hid (show Held w9 b ra rn rc w19 from ⟨HJ.out.src, H10.out.ap.trans HJ.out.ap⟩)
                      clear HJ H10 X10 V10 CU HS18
                      go_wp2_with fail
                      go_roundw
                      case rel => exact ⟨k + 1, by go_num, by omega, HE⟩
                      case measure => simp [intOf]; omega
          · have q1 : ¬ (k : Int) < 5 := by omega
            have HB10 := Lib.hid (HB9.out.trans (HL.out.ap.below HZ0.out.1 HB9.out.size))
            go_wp2_with fail
            refine (awake_all _).mono ?_
            rintro e w22 ⟨rfl, hb⟩
            have HB11 := Lib.hid (HB10.out.trans (hb.mono HB10.out.size))
            go_wp2_with fail
            go_ret
            exact ⟨rfl, HB11.out⟩

end Go.Proofs.Ytdakadgfnlpogaa
