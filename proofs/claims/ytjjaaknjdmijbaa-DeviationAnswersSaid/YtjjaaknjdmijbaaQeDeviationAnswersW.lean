/- The walk of DeviationAnswers. By the verifier's side. -/
import Derived.Test.YtjjaaknjdmijbaaQeRDv6RDv7DevU
import Derived.Test.YtjjaaknjdmijbaaQeDecV
import Derived.Test.YtjjaaknjdmijbaaQeCurveAnswersW
import Derived.Test.YtjjaaknjdmijbaaQeZero
import Derived.Test.YtjjaaknjdmijbaaQeBaseApartPickKeepS
namespace Go.Proofs.Ytjjaaknjdmijbaa
open Go.RowKit
set_option linter.unusedSimpArgs false
set_option linter.unusedVariables false

/-- A list of pairs of curves in one block. -/
def PrsV (w : World) (b B N : Nat) : Prop :=
  ∀ k, k < N → ∃ (xa : Option Addr) (xn xc : Nat) (zx : List Int) (xp xi : Int) (ya : Option Addr) (yn yc : Nat) (zy : List Int) (yp yi : Int), CurIn w b xa xn xc zx xp xi ∧ CurIn w b ya yn yc zy yp yi ∧
    w.cell? ⟨B, k * 6, none⟩ = some (.slice xa xn xc) ∧ w.cell? ⟨B, k * 6 + 1, none⟩ = some (.int .i64 xp) ∧ w.cell? ⟨B, k * 6 + 2, none⟩ = some (.int .i64 xi) ∧ w.cell? ⟨B, k * 6 + 3, none⟩ = some (.slice ya yn yc) ∧ w.cell? ⟨B, k * 6 + 4, none⟩ = some (.int .i64 yp) ∧ w.cell? ⟨B, k * 6 + 5, none⟩ = some (.int .i64 yi)
theorem PrsV.below {w u : World} {b B N : Nat} (h : PrsV w b B N) (hb : Below w.heap.size w u) : PrsV u b B N := fun k hk => by
  obtain ⟨xa, xn, xc, zx, xp, xi, ya, yn, yc, zy, yp, yi, h1, h2, c0, c1, c2, c3, c4, c5⟩ := h k hk
  exact ⟨xa, xn, xc, zx, xp, xi, ya, yn, yc, zy, yp, yi, h1.below hb, h2.below hb, (hb.cell (lt_of_cell c0)).trans c0, (hb.cell (lt_of_cell c1)).trans c1, (hb.cell (lt_of_cell c2)).trans c2, (hb.cell (lt_of_cell c3)).trans c3, (hb.cell (lt_of_cell c4)).trans c4, (hb.cell (lt_of_cell c5)).trans c5⟩
/-- Six cells. -/
structure Cx6v (w : World) (b : Nat) (x0 x1 x2 x3 x4 x5 : Value) : Prop where
  c0 : w.cell? ⟨b, 0, none⟩ = some x0
  c1 : w.cell? ⟨b, 1, none⟩ = some x1
  c2 : w.cell? ⟨b, 2, none⟩ = some x2
  c3 : w.cell? ⟨b, 3, none⟩ = some x3
  c4 : w.cell? ⟨b, 4, none⟩ = some x4
  c5 : w.cell? ⟨b, 5, none⟩ = some x5
theorem Cx6v.below {w u : World} {b : Nat} {x0 x1 x2 x3 x4 x5 : Value} (h : Cx6v w b x0 x1 x2 x3 x4 x5) (hb : Below w.heap.size w u) : Cx6v u b x0 x1 x2 x3 x4 x5 :=
  ⟨(hb.cell (lt_of_cell h.c0)).trans h.c0, (hb.cell (lt_of_cell h.c1)).trans h.c1, (hb.cell (lt_of_cell h.c2)).trans h.c2, (hb.cell (lt_of_cell h.c3)).trans h.c3, (hb.cell (lt_of_cell h.c4)).trans h.c4, (hb.cell (lt_of_cell h.c5)).trans h.c5⟩
theorem cx6v_new (w : World) (x0 x1 x2 x3 x4 x5 : Value) (t : TypeId) : Cx6v (w.alloc (.cells #[x0, x1, x2, x3, x4, x5] t)) w.heap.size x0 x1 x2 x3 x4 x5 :=
  ⟨cell_new rfl, cell_new rfl, cell_new rfl, cell_new rfl, cell_new rfl, cell_new rfl⟩
theorem PrsV.apart {w u : World} {b B N : Nat} (h : PrsV w b B N) (ha : Apart b w u) (hB : ¬ B = b) : PrsV u b B N := fun k hk => by
  obtain ⟨xa, xn, xc, zx, xp, xi, ya, yn, yc, zy, yp, yi, h1, h2, c0, c1, c2, c3, c4, c5⟩ := h k hk
  have q : ∀ {i : Nat} {v : Value}, w.cell? ⟨B, i, none⟩ = some v → u.cell? ⟨B, i, none⟩ = some v := fun c => (World.cell?_of_block (ha.block _ (lt_of_cell c) hB)).trans c
  exact ⟨xa, xn, xc, zx, xp, xi, ya, yn, yc, zy, yp, yi, h1.apart ha, h2.apart ha, q c0, q c1, q c2, q c3, q c4, q c5⟩
theorem Cx6v.apart {w u : World} {b c : Nat} {x0 x1 x2 x3 x4 x5 : Value} (h : Cx6v w c x0 x1 x2 x3 x4 x5) (ha : Apart b w u) (hB : ¬ c = b) : Cx6v u c x0 x1 x2 x3 x4 x5 := by
  have q : ∀ {i : Nat} {v : Value}, w.cell? ⟨c, i, none⟩ = some v → u.cell? ⟨c, i, none⟩ = some v := fun k => (World.cell?_of_block (ha.block _ (lt_of_cell k) hB)).trans k
  exact ⟨q h.c0, q h.c1, q h.c2, q h.c3, q h.c4, q h.c5⟩
section
variable {w : World} {b : Nat} {a1 a2 a3 a4 a5 a6 a7 a8 a9 : Option Addr} {n1 n2 n3 n4 n5 n6 n7 n8 n9 c1 c2 c3 c4 c5 c6 c7 c8 c9 : Nat} {z1 z2 z3 z4 z5 z6 z7 z8 z9 : List Int} {p1 p2 p3 p4 p5 p6 p7 p8 p9 i1 i2 i3 i4 i5 i6 i7 i8 i9 : Int} {t : TypeId}
theorem prs8v (h1 : CurIn w b a1 n1 c1 z1 p1 i1) (h2 : CurIn w b a2 n2 c2 z2 p2 i2) (h3 : CurIn w b a3 n3 c3 z3 p3 i3) (h4 : CurIn w b a4 n4 c4 z4 p4 i4) (h5 : CurIn w b a5 n5 c5 z5 p5 i5) (h6 : CurIn w b a6 n6 c6 z6 p6 i6) (h7 : CurIn w b a7 n7 c7 z7 p7 i7) (h8 : CurIn w b a8 n8 c8 z8 p8 i8) (h9 : CurIn w b a9 n9 c9 z9 p9 i9) :
    PrsV (w.alloc (.cells #[.slice a3 n3 c3, .int .i64 p3, .int .i64 i3, .slice a4 n4 c4, .int .i64 p4, .int .i64 i4, .slice a4 n4 c4, .int .i64 p4, .int .i64 i4, .slice a3 n3 c3, .int .i64 p3, .int .i64 i3, .slice a1 n1 c1, .int .i64 p1, .int .i64 i1, .slice a4 n4 c4, .int .i64 p4, .int .i64 i4, .slice a3 n3 c3, .int .i64 p3, .int .i64 i3, .slice a2 n2 c2, .int .i64 p2, .int .i64 i2, .slice a5 n5 c5, .int .i64 p5, .int .i64 i5, .slice a4 n4 c4, .int .i64 p4, .int .i64 i4, .slice a6 n6 c6, .int .i64 p6, .int .i64 i6, .slice a7 n7 c7, .int .i64 p7, .int .i64 i7, .slice a8 n8 c8, .int .i64 p8, .int .i64 i8, .slice a9 n9 c9, .int .i64 p9, .int .i64 i9, .slice a1 n1 c1, .int .i64 p1, .int .i64 i1, .slice a2 n2 c2, .int .i64 p2, .int .i64 i2] t)) b w.heap.size 8 := fun k hk => by
  have hb := fun o => (Below.refl w.heap.size w).alloc (Nat.le_refl _) o
  have hk5 : k = 0 ∨ k = 1 ∨ k = 2 ∨ k = 3 ∨ k = 4 ∨ k = 5 ∨ k = 6 ∨ k = 7 := by omega
  rcases hk5 with rfl | rfl | rfl | rfl | rfl | rfl | rfl | rfl
  · exact ⟨_, _, _, _, _, _, _, _, _, _, _, _, h3.below (hb _), h4.below (hb _), cell_new rfl, cell_new rfl, cell_new rfl, cell_new rfl, cell_new rfl, cell_new rfl⟩
  · exact ⟨_, _, _, _, _, _, _, _, _, _, _, _, h4.below (hb _), h3.below (hb _), cell_new rfl, cell_new rfl, cell_new rfl, cell_new rfl, cell_new rfl, cell_new rfl⟩
  · exact ⟨_, _, _, _, _, _, _, _, _, _, _, _, h1.below (hb _), h4.below (hb _), cell_new rfl, cell_new rfl, cell_new rfl, cell_new rfl, cell_new rfl, cell_new rfl⟩
  · exact ⟨_, _, _, _, _, _, _, _, _, _, _, _, h3.below (hb _), h2.below (hb _), cell_new rfl, cell_new rfl, cell_new rfl, cell_new rfl, cell_new rfl, cell_new rfl⟩
  · exact ⟨_, _, _, _, _, _, _, _, _, _, _, _, h5.below (hb _), h4.below (hb _), cell_new rfl, cell_new rfl, cell_new rfl, cell_new rfl, cell_new rfl, cell_new rfl⟩
  · exact ⟨_, _, _, _, _, _, _, _, _, _, _, _, h6.below (hb _), h7.below (hb _), cell_new rfl, cell_new rfl, cell_new rfl, cell_new rfl, cell_new rfl, cell_new rfl⟩
  · exact ⟨_, _, _, _, _, _, _, _, _, _, _, _, h8.below (hb _), h9.below (hb _), cell_new rfl, cell_new rfl, cell_new rfl, cell_new rfl, cell_new rfl, cell_new rfl⟩
  · exact ⟨_, _, _, _, _, _, _, _, _, _, _, _, h1.below (hb _), h2.below (hb _), cell_new rfl, cell_new rfl, cell_new rfl, cell_new rfl, cell_new rfl, cell_new rfl⟩
end

set_option maxRecDepth 100000 in
set_option maxHeartbeats 6400000 in
theorem deviationAnswers_walk (W : World) (aR : Option Addr) (nR cR : Nat) (zR : List Int) (pR iR : Int) (aO : Option Addr) (nO cO : Nat) (zO : List Int) (pO iO : Int) (t : Int) (a : Option Addr) (n cap : Nat)
    (hR : nR ≤ 800 → RowZ W aR nR cR zR) (hpR : In64 pR) (hiR : In64 iR) (hO : nO ≤ 800 → RowZ W aO nO cO zO) (hpO : In64 pO) (hiO : In64 iO) (ht : In64 t) (hrow : RowAt W a n cap) :
    Calls Try.prog 7 #[curV aR nR cR pR iR, curV aO nO cO pO iO, .int .i64 t, .slice a n cap] W fun e w' => e = .returned (.bool true) ∧ Below W.heap.size W w' := by
  have hR0 : ∀ {u : World}, Below W.heap.size W u → RowAt u a n cap := fun hb => RowAt.under hrow hb
  have HIR := Lib.hid (And.intro hpR hiR)
  have HIO := Lib.hid (And.intro hpO hiO)
  have HT := Lib.hid ht
  clear hrow hpR hiR hpO hiO ht
  go_enter Try.func7, Try.ntmps7
  have hB0 : Below W.heap.size W ((W.alloc (.cells #[.slice aR nR cR, .int .i64 pR, .int .i64 iR] 24)).alloc (.cells #[.slice aO nO cO, .int .i64 pO, .int .i64 iO] 24)) :=
    ((Below.refl _ _).alloc (Nat.le_refl _) _).alloc (by simp) _
  have HB0 := Lib.hid hB0
  have HR0 := Lib.hid (hR0 hB0)
  have K4 := Lib.hid ((Cur3.new W (.slice aR nR cR) (.int .i64 pR) (.int .i64 iR) 24).alloc (.cells #[.slice aO nO cO, .int .i64 pO, .int .i64 iO] 24))
  have K5 := Lib.hid (Cur3.new2 W (.slice aO nO cO) (.int .i64 pO) (.int .i64 iO) 24 (.cells #[.slice aR nR cR, .int .i64 pR, .int .i64 iR] 24))
  have HSZ := Lib.hid (show ((W.alloc (.cells #[.slice aR nR cR, .int .i64 pR, .int .i64 iR] 24)).alloc (.cells #[.slice aO nO cO, .int .i64 pO, .int .i64 iO] 24)).heap.size = W.heap.size + 1 + 1 by simp)
  have RR0 := Lib.hid (fun hh => (hR hh).under hB0)
  have RO0 := Lib.hid (fun hh => (hO hh).under hB0)
  clear hB0 hR0 hR hO
  go_wp2_with fail
  generalize (W.alloc (.cells #[.slice aR nR cR, .int .i64 pR, .int .i64 iR] 24)).alloc (.cells #[.slice aO nO cO, .int .i64 pO, .int .i64 iO] 24) = w0 at HB0 HR0 K4 K5 HSZ RR0 RO0 ⊢
  obtain ⟨b1, hb1⟩ : ∃ b, decide (nR ≤ 800) = b := ⟨_, rfl⟩
  have HS1 := Lib.hid hb1
  refine (small_any aR nR cR pR iR b1 HS1.out _).mono ?_
  rintro e w1 ⟨rfl, hw1⟩
  have HB1 := Lib.hid (HB0.out.trans (hw1.mono HB0.out.size))
  have HW1 := Lib.hid hw1
  clear hb1 hw1
  cases b1 with
  | false =>
    go_wp2_with fail
    refine (awake10 _).mono ?_
    rintro e w2 ⟨rfl, hw2⟩
    have HB2 := Lib.hid (HB1.out.trans (hw2.mono HB1.out.size))
    go_wp2_with fail
    go_ret
    exact ⟨rfl, HB2.out⟩
  | true =>
    have K5' := K5.out.below HW1.out
    obtain ⟨c0, c1, c2, f0, f1, f2⟩ := K5'
    go_wp2_with fail
    obtain ⟨b2, hb2⟩ : ∃ b, decide (nO ≤ 800) = b := ⟨_, rfl⟩
    have HS2 := Lib.hid hb2
    refine (small_any aO nO cO pO iO b2 HS2.out _).mono ?_
    rintro e w2 ⟨rfl, hw2⟩
    have HB2 := Lib.hid (HB1.out.trans (hw2.mono HB1.out.size))
    have HW2 := Lib.hid (HW1.out.trans (hw2.mono HW1.out.size))
    clear hb2 hw2 c0 c1 c2 f0 f1 f2
    cases b2 with
    | false =>
      go_wp2_with fail
      refine (awake10 _).mono ?_
      rintro e w3 ⟨rfl, hw3⟩
      have HB3 := Lib.hid (HB2.out.trans (hw3.mono HB2.out.size))
      go_wp2_with fail
      go_ret
      exact ⟨rfl, HB3.out⟩
    | true =>
      have hnR : nR ≤ 800 := by simpa using HS1.out
      have hnO : nO ≤ 800 := by simpa using HS2.out
      have HNN := Lib.hid (And.intro hnR hnO)
      clear hnR hnO HS1 HS2
      go_wp2_with fail
      refine (new_any a n cap _ (HR0.out.under HW2.out)).mono ?_
      rintro e w3 ⟨rfl, hb3, hz3, ra, rn, rc, hs3⟩
      have HB3 := Lib.hid (HB2.out.trans (hb3.mono HB2.out.size))
      have HW3 := Lib.hid (HW2.out.trans (hb3.mono HW2.out.size))
      have HS3 := Lib.hid hs3
      have hbW : W.heap.size ≤ w2.heap.size := HB2.out.size
      have hb0 : w0.heap.size ≤ w2.heap.size := HW2.out.size
      have HZ0 := Lib.hid (And.intro hbW hb0)
      have CR := Lib.hid (show CurIn w3 w2.heap.size aR nR cR zR pR iR from (CurIn.old (RR0.out HNN.out.1) HIR.out.1 HIR.out.2 hb0).below HW3.out)
      have CO := Lib.hid (show CurIn w3 w2.heap.size aO nO cO zO pO iO from (CurIn.old (RO0.out HNN.out.2) HIO.out.1 HIO.out.2 hb0).below HW3.out)
      have K4' := Lib.hid (K4.out.below HW3.out)
      have K5' := Lib.hid (K5.out.below HW3.out)
      have h4b : ¬ W.heap.size = w2.heap.size := by have := HSZ.out; omega
      have h5b : ¬ W.heap.size + 1 = w2.heap.size := by have := HSZ.out; omega
      clear hb3 hz3 hs3 hbW hb0 RR0 RO0 K4 K5 HR0 HB2 HB1 HB0 HW1 HW2
      generalize w2.heap.size = b at *
      go_wp2_with fail
      refine (curve_any 8 (by omega) (by omega) _ ra rn rc _ HS3.out).mono ?_
      rintro e w4 ⟨a1, n1, cap1, zs, p, inc, rfl, hs4, he4, hr4, ok4, hx4⟩
      have HS4 := Lib.hid hs4
      have HB4 := Lib.hid (HB3.out.trans (he4.below HZ0.out.1 HB3.out.size))
      have C1 := Lib.hid (show CurIn w4 b a1 n1 cap1 zs p inc from ⟨hr4, by have := ok4.p8; exact ⟨by omega, by omega⟩, by have := ok4.inc; have := ok4.good.i0; exact ⟨by omega, by omega⟩, fun _ x hx => by have := hx4 x hx; have := HS3.out.lt; omega⟩)
      have OK1 := Lib.hid ok4
      have E4 := Lib.hid he4
      clear hs4 he4 hr4 ok4 hx4
      go_wp2_with fail
      refine (curve_any 8 (by omega) (by omega) _ ra rn rc _ HS4.out).mono ?_
      rintro e w5 ⟨a2, n2, cap2, ys, q, jnc, rfl, hs5, he5, hr5, ok5, hx5⟩
      have HS5 := Lib.hid hs5
      have HB5 := Lib.hid (HB4.out.trans (he5.below HZ0.out.1 HB4.out.size))
      have C2 := Lib.hid (show CurIn w5 b a2 n2 cap2 ys q jnc from ⟨hr5, by have := ok5.p8; exact ⟨by omega, by omega⟩, by have := ok5.inc; have := ok5.good.i0; exact ⟨by omega, by omega⟩, fun _ x hx => by have := hx5 x hx; have := HS4.out.lt; omega⟩)
      have OK2 := Lib.hid ok5
      have E5 := Lib.hid (E4.out.trans he5)
      have E45 := Lib.hid he5
      clear hs5 he5 hr5 ok5 hx5
      go_wp2_with fail
      have hz5 : w0.heap.size ≤ w5.heap.size := by have := HZ0.out.2; have := HS5.out.lt; omega
      have C1' := Lib.hid (((C1.out.apart E45.out).below ((Below.refl _ _).alloc (Nat.le_refl _) (.cells #[.slice a1 n1 cap1, .int .i64 p, .int .i64 inc] 24))).below ((Below.refl _ _).alloc (Nat.le_refl _) (.cells #[.slice a2 n2 cap2, .int .i64 q, .int .i64 jnc] 24)))
      have C2' := Lib.hid ((C2.out.below ((Below.refl _ _).alloc (Nat.le_refl _) (.cells #[.slice a1 n1 cap1, .int .i64 p, .int .i64 inc] 24))).below ((Below.refl _ _).alloc (Nat.le_refl _) (.cells #[.slice a2 n2 cap2, .int .i64 q, .int .i64 jnc] 24)))
      have CR' := Lib.hid (((CR.out.apart E5.out).below ((Below.refl _ _).alloc (Nat.le_refl _) (.cells #[.slice a1 n1 cap1, .int .i64 p, .int .i64 inc] 24))).below ((Below.refl _ _).alloc (Nat.le_refl _) (.cells #[.slice a2 n2 cap2, .int .i64 q, .int .i64 jnc] 24)))
      have CO' := Lib.hid (((CO.out.apart E5.out).below ((Below.refl _ _).alloc (Nat.le_refl _) (.cells #[.slice a1 n1 cap1, .int .i64 p, .int .i64 inc] 24))).below ((Below.refl _ _).alloc (Nat.le_refl _) (.cells #[.slice a2 n2 cap2, .int .i64 q, .int .i64 jnc] 24)))
      have HS6 := Lib.hid ((HS5.out.under ((Below.refl _ _).alloc (Nat.le_refl _) (.cells #[.slice a1 n1 cap1, .int .i64 p, .int .i64 inc] 24))).under ((Below.refl _ _).alloc (Nat.le_refl _) (.cells #[.slice a2 n2 cap2, .int .i64 q, .int .i64 jnc] 24)))
      have HB6 := Lib.hid ((HB5.out.alloc HB5.out.size (.cells #[.slice a1 n1 cap1, .int .i64 p, .int .i64 inc] 24)).alloc (HB5.out.alloc HB5.out.size (.cells #[.slice a1 n1 cap1, .int .i64 p, .int .i64 inc] 24)).size (.cells #[.slice a2 n2 cap2, .int .i64 q, .int .i64 jnc] 24))
      have B4 := Lib.hid (((K4'.out.apart E5.out h4b).alloc (.cells #[.slice a1 n1 cap1, .int .i64 p, .int .i64 inc] 24)).alloc (.cells #[.slice a2 n2 cap2, .int .i64 q, .int .i64 jnc] 24))
      have B5 := Lib.hid (((K5'.out.apart E5.out h5b).alloc (.cells #[.slice a1 n1 cap1, .int .i64 p, .int .i64 inc] 24)).alloc (.cells #[.slice a2 n2 cap2, .int .i64 q, .int .i64 jnc] 24))
      have B10 := Lib.hid ((Cur3.new w5 (.slice a1 n1 cap1) (.int .i64 p) (.int .i64 inc) 24).alloc (.cells #[.slice a2 n2 cap2, .int .i64 q, .int .i64 jnc] 24))
      have B11 := Lib.hid (Cur3.new2 w5 (.slice a2 n2 cap2) (.int .i64 q) (.int .i64 jnc) 24 (.cells #[.slice a1 n1 cap1, .int .i64 p, .int .i64 inc] 24))
      have h10b : ¬ w5.heap.size = b := by have := HS5.out.lt; omega
      have h11b : ¬ w5.heap.size + 1 = b := by have := HS5.out.lt; omega
      clear hz5 CR CO C1 C2 K4' K5' HS3 HS4 HW3 E5 E45 E4 HB5 HB4 HB3
      generalize (w5.alloc (.cells #[.slice a1 n1 cap1, .int .i64 p, .int .i64 inc] 24)).alloc (.cells #[.slice a2 n2 cap2, .int .i64 q, .int .i64 jnc] 24) = w6 at *
      have HK := Lib.hid (fun u (h : Held w6 b ra rn rc u) => s4_mk B4.out B5.out B10.out B11.out h4b h5b h10b h11b h)
      have HK0 := Lib.hid (HK.out _ (Held.start HS6.out).drew)
      have hn1 : 1 ≤ n1 ∧ n1 ≤ 16 := by have := ok_pos OK1.out; have := OK1.out.few; have := C1'.out.row.len; omega
      have hn2 : 1 ≤ n2 ∧ n2 ≤ 16 := by have := ok_pos OK2.out; have := OK2.out.few; have := C2'.out.row.len; omega
      have P1 := Lib.hid (show (-2000 ≤ (p : Int) ∧ (p : Int) ≤ 2000) ∧ (-4294967296 ≤ inc ∧ inc ≤ 4294967296) from by have := OK1.out.p8; have := OK1.out.inc; have := OK1.out.good.i0; omega)
      have P2 := Lib.hid (show (-2000 ≤ (q : Int) ∧ (q : Int) ≤ 2000) ∧ (-4294967296 ≤ jnc ∧ jnc ≤ 4294967296) from by have := OK2.out.p8; have := OK2.out.inc; have := OK2.out.good.i0; omega)
      have D1 := Lib.hid (ok_bd OK1.out)
      have D2 := Lib.hid (ok_bd OK2.out)
      have hbl6 := HS6.out.lt
      go_cut [71, 72, 73] (fun s71 s72 s73 wx => ∃ B, s71 = .slice (some ⟨B, 0, none⟩) 8 8 ∧ s72 = .int .i64 8 ∧ s73 = .int .i64 0 ∧ ¬ B = b ∧ Hid (PrsV wx b B 8) ∧ Hid (Held w6 b ra rn rc wx))
      case first =>
        go_region_held3 (fun u => u.cell? ⟨W.heap.size, 0, none⟩ = some (.slice aR nR cR) ∧ u.cell? ⟨W.heap.size, 1, none⟩ = some (.int .i64 pR) ∧ u.cell? ⟨W.heap.size, 2, none⟩ = some (.int .i64 iR) ∧ u.cell? ⟨W.heap.size + 1, 0, none⟩ = some (.slice aO nO cO) ∧ u.cell? ⟨W.heap.size + 1, 1, none⟩ = some (.int .i64 pO) ∧ u.cell? ⟨W.heap.size + 1, 2, none⟩ = some (.int .i64 iO) ∧
            u.cell? ⟨w5.heap.size, 0, none⟩ = some (.slice a1 n1 cap1) ∧ u.cell? ⟨w5.heap.size, 1, none⟩ = some (.int .i64 p) ∧ u.cell? ⟨w5.heap.size, 2, none⟩ = some (.int .i64 inc) ∧ u.cell? ⟨w5.heap.size + 1, 0, none⟩ = some (.slice a2 n2 cap2) ∧ u.cell? ⟨w5.heap.size + 1, 1, none⟩ = some (.int .i64 q) ∧ u.cell? ⟨w5.heap.size + 1, 2, none⟩ = some (.int .i64 jnc) ∧ Hid (Held w6 b ra rn rc u))
          (first | with_reducible exact HK0.out | with_reducible exact HK.out _ ((s4_of (by assumption)).call hs11 he11) | with_reducible exact HK.out _ ((s4_of (by assumption)).call hs10 he10) | with_reducible exact HK.out _ ((s4_of (by assumption)).call hs9 he9) | with_reducible exact HK.out _ ((s4_of (by assumption)).call hs8 he8) | with_reducible exact HK.out _ ((s4_of (by assumption)).call hs7 he7) | with_reducible exact HK.out _ ((s4_of (by assumption)).alloc _) | with_reducible exact HK.out _ ((s4_of (by assumption)).alloc _).drew | with_reducible exact HK.out _ (s4_of (by assumption)).drew)
          (first
            | (go_at_call 19; ((with_reducible refine (bent_any 4611686018427387905 (by decide) (by decide) b ra rn rc a1 n1 cap1 zs p inc hn1.1 (by omega) D1.out P1.out.1 P1.out.2 _ ((s4_of (by assumption)).at HS6.out) (C1'.out.apart (s4_of (by assumption)).ap).row).mono ?_); rintro e w7 ⟨a7, n7, cap7, z7, p7, i7, rfl, hs7, he7, hr7, hm7, hd7, hp7, hi7, hx7⟩; have HL7 := Lib.hid (s4_of (by assumption)).lt))
            | (go_at_call 20; (have HQ8 := hs8; ((refine (zero_any 5 (by omega) (by omega) b ra rn rc _ ((s4_of (by assumption)).at HS6.out)).mono ?_); rintro e w9 ⟨a9, n9, cap9, z9, p9, i9, rfl, hs9, he9, hr9, ok9, _, _, _, hx9⟩; have HL9 := Lib.hid (s4_of (by assumption)).lt)))
            | (go_at_call 20; ((refine (zero_any 5 (by omega) (by omega) b ra rn rc _ ((s4_of (by assumption)).at HS6.out)).mono ?_); rintro e w8 ⟨a8, n8, cap8, z8, p8, i8, rfl, hs8, he8, hr8, ok8, _, _, _, hx8⟩; have HL8 := Lib.hid (s4_of (by assumption)).lt))
            | (go_at_call 23; (have HQ10 := hs10; (with_reducible refine (steps_any b ra rn rc _ ((s4_of (by assumption)).at HS6.out)).mono ?_); rintro e w11 ⟨a11, n11, cap11, z11, p11, i11, rfl, hs11, he11, hr11, hp11, hi11, hx11⟩; have HL11 := Lib.hid (s4_of (by assumption)).lt; have HK11 := Lib.hid ((s4_of (by assumption)).call hs11 he11)))
            | (go_at_call 23; ((with_reducible refine (steps_any b ra rn rc _ ((s4_of (by assumption)).at HS6.out)).mono ?_); rintro e w10 ⟨a10, n10, cap10, z10, p10, i10, rfl, hs10, he10, hr10, hp10, hi10, hx10⟩; have HL10 := Lib.hid (s4_of (by assumption)).lt)))
        go_wp2_with fail
        go_meet
        have hH := HK11.out
        have e7 := ((he8.trans he9).trans he10).trans he11
        exact ⟨w11.heap.size, rfl, rfl, rfl, by have := hH.lt; omega, prs8v (CR'.out.apart hH.ap) (CO'.out.apart hH.ap) (C1'.out.apart hH.ap) (C2'.out.apart hH.ap) ((bent_in HL7.out hr7 hp7 hi7 hx7).apart e7)
          ((show CurIn w8 b a8 n8 cap8 z8 p8 i8 from ⟨hr8, by have := ok8.p2; exact ⟨by omega, by omega⟩, by have := ok8.i1; have := ok8.i0; exact ⟨by omega, by omega⟩, fun _ x hx => by have := hx8 x hx; have := HL8.out; omega⟩).apart ((he9.trans he10).trans he11)) ((show CurIn w9 b a9 n9 cap9 z9 p9 i9 from ⟨hr9, by have := ok9.p2; exact ⟨by omega, by omega⟩, by have := ok9.i1; have := ok9.i0; exact ⟨by omega, by omega⟩, fun _ x hx => by have := hx9 x hx; have := HL9.out; omega⟩).apart (he10.trans he11)) ((show CurIn w10 b a10 n10 cap10 z10 p10 i10 from ⟨hr10, hp10, hi10, fun _ x hx => by have := hx10 x hx; have := HL10.out; omega⟩).apart he11) (show CurIn w11 b a11 n11 cap11 z11 p11 i11 from ⟨hr11, hp11, hi11, fun _ x hx => by have := hx11 x hx; have := HL11.out; omega⟩), hH.alloc _⟩
      case rest =>
        obtain ⟨B, rfl, rfl, rfl, hBb, HC, HH⟩ := hcut
        obtain ⟨w9, rfl⟩ : ∃ u : World, u = wc := ⟨_, rfl⟩
        have HB9 := Lib.hid (HB6.out.trans (HH.out.ap.below HZ0.out.1 HB6.out.size))
        have HS9 := Lib.hid (HH.out.at HS6.out)
        clear HK HK0 B4 B5 B10 B11 CR' CO' C1' C2' HH HB6 HS6 P1 P2 D1 D2 hbl6 h4b h5b h10b h11b hn1 hn2 OK1 OK2
        go_wp2_with fail
        go_loopw [73] (fun s73 wx => ∃ k : Nat, s73 = .int .i64 (k : Int) ∧ k ≤ 8 ∧ Hid (Held w9 b ra rn rc wx)) (fun s73 _ => 8 - (intOf s73).toNat)
        case atStart => exact ⟨0, rfl, by omega, Lib.hid (Held.start HS9.out)⟩
        case round =>
          obtain ⟨k, rfl, hk5, HL⟩ := hrel
          obtain ⟨wq, rfl⟩ : ∃ u : World, u = wr := ⟨_, rfl⟩
          by_cases hk : k < 8
          · obtain ⟨xa, xn, xc, zx, xp, xi, ya, yn, yc, zy, yp, yi, CX, CY, hc0, hc1, hc2, hc3, hc4, hc5⟩ := (HC.out.apart HL.out.ap hBb) k hk
            have q0 : (0 : Int) ≤ (k : Int) := by omega
            have q1 : (k : Int) < 8 := by omega
            obtain ⟨b1, m1, k1, b2, m2, k2, b3, m3, k3, zc, hU⟩ := dv_u (z1 := zx) (z2 := zy) CX.ip CX.ii CY.ip CY.ii
            have HU := Lib.hid hU
            have IP := Lib.hid (And.intro CX.ip CX.ii)
            obtain ⟨wA, hA⟩ : ∃ u, wq.alloc (.cells #[.slice xa xn xc, .int .i64 xp, .int .i64 xi, .slice ya yn yc, .int .i64 yp, .int .i64 yi] 30) = u := ⟨_, rfl⟩
            have hbA : Below wq.heap.size wq wA := by rw [← hA]; exact (Below.refl _ _).alloc (Nat.le_refl _) _
            have C6 := Lib.hid (show Cx6v wA wq.heap.size (.slice xa xn xc) (.int .i64 xp) (.int .i64 xi) (.slice ya yn yc) (.int .i64 yp) (.int .i64 yi) by rw [← hA]; exact cx6v_new _ _ _ _ _ _ _ _)
            have X1 := Lib.hid (And.intro (CX.below hbA) (CY.below hbA))
            have L1 := Lib.hid (HL.out.below hbA)
            have HA := Lib.hid hA
            have N0 := Lib.hid (Below.refl wA.heap.size wA)
            obtain ⟨F, hF⟩ : ∃ F, wq.heap.size = F := ⟨_, rfl⟩
            have hFb : ¬ F = b := by have := HL.out.lt; omega
            have hFA : F < wA.heap.size := by rw [← hF]; exact C6.out.c0 |> lt_of_cell
            rw [hF] at C6
            clear CX CY hA hbA hU HL
            go_upto_region 8 with fail
            try rw [HA.out]
            try rw [hF]
            clear hc0 hc1 hc2 hc3 hc4 hc5 hF
            obtain ⟨k0, k1', k2', k3', k4, k5⟩ := C6.out
            go_wp2_with fail
            clear k0 k1' k2' k3' k4 k5
            refine ((HU.out xa xn xc ya yn yc _ (X1.out.1.row.under N0.out) (X1.out.2.row.under N0.out)).1).mono ?_
            rintro e va0 ⟨rfl, hb⟩
            obtain ⟨wb0, hw⟩ : ∃ u, va0.alloc (.cells #[.bool b1, .int .i64 m1, .int .i64 k1] 74) = u := ⟨_, rfl⟩
            have hz : Below va0.heap.size va0 wb0 := by rw [← hw]; exact (Below.refl _ _).alloc (Nat.le_refl _) _
            have hz2 := hb.trans (hz.mono hb.size)
            have N1 := Lib.hid (N0.out.trans (hz2.mono N0.out.size))
            have V0 := Lib.hid (show Cur3 wb0 va0.heap.size (.bool b1) (.int .i64 m1) (.int .i64 k1) by rw [← hw]; exact Cur3.new _ _ _ _ _)
            have HW0 := Lib.hid hw
            obtain ⟨e0, he0⟩ : ∃ x, va0.heap.size = x := ⟨_, rfl⟩
            have G0 : wA.heap.size ≤ e0 := by rw [← he0]; exact (N0.out.trans (hb.mono N0.out.size)).size
            rw [he0] at V0
            have HV0 := Lib.hid (show e0 < wb0.heap.size from V0.out.lt)
            have HE0 := Lib.hid he0
            clear hb hz hz2 hw he0
            obtain ⟨k0, k1', k2', k3', k4, k5⟩ := C6.out.below N1.out
            go_upto_region 9 with fail
            try rw [HW0.out]
            try rw [HE0.out]
            go_wp2_with fail
            clear k0 k1' k2' k3' k4 k5
            refine ((HU.out xa xn xc ya yn yc _ (X1.out.1.row.under N1.out) (X1.out.2.row.under N1.out)).2.1).mono ?_
            rintro e va1 ⟨rfl, hb⟩
            obtain ⟨wb1, hw⟩ : ∃ u, va1.alloc (.cells #[.bool b1, .int .i64 m1, .int .i64 k1] 74) = u := ⟨_, rfl⟩
            have hz : Below va1.heap.size va1 wb1 := by rw [← hw]; exact (Below.refl _ _).alloc (Nat.le_refl _) _
            have hz2 := hb.trans (hz.mono hb.size)
            have N2 := Lib.hid (N1.out.trans (hz2.mono N1.out.size))
            have V1 := Lib.hid (show Cur3 wb1 va1.heap.size (.bool b1) (.int .i64 m1) (.int .i64 k1) by rw [← hw]; exact Cur3.new _ _ _ _ _)
            have HW1 := Lib.hid hw
            obtain ⟨e1, he1⟩ : ∃ x, va1.heap.size = x := ⟨_, rfl⟩
            have G1 : wA.heap.size ≤ e1 := by rw [← he1]; exact (N1.out.trans (hb.mono N1.out.size)).size
            have V0 := Lib.hid (V0.out.below hz2)
            have G01 : e0 < e1 := by rw [← he1]; exact Nat.lt_of_lt_of_le HV0.out hb.size
            rw [he1] at V1
            have HV1 := Lib.hid (show e1 < wb1.heap.size from V1.out.lt)
            have HE1 := Lib.hid he1
            clear hb hz hz2 hw he1
            obtain ⟨k0, k1', k2', k3', k4, k5⟩ := C6.out.below N2.out
            go_upto_region 10 with fail
            try rw [HW1.out]
            try rw [HE1.out]
            obtain ⟨y0, y1, y2, u0, u1, u2⟩ := V0.out
            obtain ⟨x0, x1, x2, o0, o1, o2⟩ := V1.out
            go_upto_region 12 with fail
            clear y0 y1 y2 u0 u1 u2 x0 x1 x2 o0 o1 o2
            go_wp2_with fail
            clear k0 k1' k2' k3' k4 k5
            refine ((HU.out xa xn xc ya yn yc _ (X1.out.1.row.under N2.out) (X1.out.2.row.under N2.out)).2.2.1).mono ?_
            rintro e va2 ⟨rfl, hb⟩
            have V0 := Lib.hid (V0.out.below hb)
            have V1 := Lib.hid (V1.out.below hb)
            obtain ⟨y0, y1, y2, u0, u1, u2⟩ := V0.out
            obtain ⟨wb2, hw⟩ : ∃ u, (((va2.setCell ⟨e0, 0, none⟩ (.bool b2)).setCell ⟨e0, 1, none⟩ (.int .i64 m2)).setCell ⟨e0, 2, none⟩ (.int .i64 k2)) = u := ⟨_, rfl⟩
            have N3 := Lib.hid (show Below wA.heap.size wA wb2 by rw [← hw]; exact below_set3 (N2.out.trans (hb.mono N2.out.size)) (by omega) _ _ _)
            have V0 := Lib.hid (show Cur3 wb2 e0 (.bool b2) (.int .i64 m2) (.int .i64 k2) by rw [← hw]; exact V0.out.set _ _ _)
            have V1 := Lib.hid (show Cur3 wb2 e1 _ _ _ by rw [← hw]; exact ((V1.out.other (by omega) _ _).other (by omega) _ _).other (by omega) _ _)
            have HW2 := Lib.hid hw
            clear hb hw
            obtain ⟨k0, k1', k2', k3', k4, k5⟩ := C6.out.below N3.out
            go_upto_region 13 with fail
            try rw [HW2.out]
            clear y0 y1 y2 u0 u1 u2
            go_wp2_with fail
            clear k0 k1' k2' k3' k4 k5
            refine ((HU.out xa xn xc ya yn yc _ (X1.out.1.row.under N3.out) (X1.out.2.row.under N3.out)).2.2.2.1).mono ?_
            rintro e va3 ⟨rfl, hb⟩
            have V0 := Lib.hid (V0.out.below hb)
            have V1 := Lib.hid (V1.out.below hb)
            obtain ⟨y0, y1, y2, u0, u1, u2⟩ := V1.out
            obtain ⟨wb3, hw⟩ : ∃ u, (((va3.setCell ⟨e1, 0, none⟩ (.bool b2)).setCell ⟨e1, 1, none⟩ (.int .i64 m2)).setCell ⟨e1, 2, none⟩ (.int .i64 k2)) = u := ⟨_, rfl⟩
            have N4 := Lib.hid (show Below wA.heap.size wA wb3 by rw [← hw]; exact below_set3 (N3.out.trans (hb.mono N3.out.size)) (by omega) _ _ _)
            have V1 := Lib.hid (show Cur3 wb3 e1 (.bool b2) (.int .i64 m2) (.int .i64 k2) by rw [← hw]; exact V1.out.set _ _ _)
            have V0 := Lib.hid (show Cur3 wb3 e0 _ _ _ by rw [← hw]; exact ((V0.out.other (by omega) _ _).other (by omega) _ _).other (by omega) _ _)
            have HW3 := Lib.hid hw
            clear hb hw
            obtain ⟨k0, k1', k2', k3', k4, k5⟩ := C6.out.below N4.out
            go_upto_region 14 with fail
            try rw [HW3.out]
            clear y0 y1 y2 u0 u1 u2
            obtain ⟨y0, y1, y2, u0, u1, u2⟩ := V0.out
            obtain ⟨x0, x1, x2, o0, o1, o2⟩ := V1.out
            go_upto_region 16 with fail
            clear y0 y1 y2 u0 u1 u2 x0 x1 x2 o0 o1 o2
            go_wp2_with fail
            clear k0 k1' k2' k3' k4 k5
            refine ((HU.out xa xn xc ya yn yc _ (X1.out.1.row.under N4.out) (X1.out.2.row.under N4.out)).2.2.2.2.1).mono ?_
            rintro e va4 ⟨rfl, hb⟩
            have V0 := Lib.hid (V0.out.below hb)
            have V1 := Lib.hid (V1.out.below hb)
            obtain ⟨y0, y1, y2, u0, u1, u2⟩ := V0.out
            obtain ⟨wb4, hw⟩ : ∃ u, (((va4.setCell ⟨e0, 0, none⟩ (.bool b3)).setCell ⟨e0, 1, none⟩ (.int .i64 m3)).setCell ⟨e0, 2, none⟩ (.int .i64 k3)) = u := ⟨_, rfl⟩
            have N5 := Lib.hid (show Below wA.heap.size wA wb4 by rw [← hw]; exact below_set3 (N4.out.trans (hb.mono N4.out.size)) (by omega) _ _ _)
            have V0 := Lib.hid (show Cur3 wb4 e0 (.bool b3) (.int .i64 m3) (.int .i64 k3) by rw [← hw]; exact V0.out.set _ _ _)
            have V1 := Lib.hid (show Cur3 wb4 e1 _ _ _ by rw [← hw]; exact ((V1.out.other (by omega) _ _).other (by omega) _ _).other (by omega) _ _)
            have HW4 := Lib.hid hw
            clear hb hw
            obtain ⟨k0, k1', k2', k3', k4, k5⟩ := C6.out.below N5.out
            go_upto_region 17 with fail
            try rw [HW4.out]
            clear y0 y1 y2 u0 u1 u2
            go_wp2_with fail
            clear k0 k1' k2' k3' k4 k5
            refine ((HU.out xa xn xc ya yn yc _ (X1.out.1.row.under N5.out) (X1.out.2.row.under N5.out)).2.2.2.2.2).mono ?_
            rintro e va5 ⟨rfl, hb⟩
            have V0 := Lib.hid (V0.out.below hb)
            have V1 := Lib.hid (V1.out.below hb)
            obtain ⟨y0, y1, y2, u0, u1, u2⟩ := V1.out
            obtain ⟨wb5, hw⟩ : ∃ u, (((va5.setCell ⟨e1, 0, none⟩ (.bool b3)).setCell ⟨e1, 1, none⟩ (.int .i64 m3)).setCell ⟨e1, 2, none⟩ (.int .i64 k3)) = u := ⟨_, rfl⟩
            have N6 := Lib.hid (show Below wA.heap.size wA wb5 by rw [← hw]; exact below_set3 (N5.out.trans (hb.mono N5.out.size)) (by omega) _ _ _)
            have V1 := Lib.hid (show Cur3 wb5 e1 (.bool b3) (.int .i64 m3) (.int .i64 k3) by rw [← hw]; exact V1.out.set _ _ _)
            have V0 := Lib.hid (show Cur3 wb5 e0 _ _ _ by rw [← hw]; exact ((V0.out.other (by omega) _ _).other (by omega) _ _).other (by omega) _ _)
            have HW5 := Lib.hid hw
            clear hb hw
            obtain ⟨k0, k1', k2', k3', k4, k5⟩ := C6.out.below N6.out
            go_upto_region 18 with fail
            try rw [HW5.out]
            clear y0 y1 y2 u0 u1 u2
            obtain ⟨y0, y1, y2, u0, u1, u2⟩ := V0.out
            obtain ⟨x0, x1, x2, o0, o1, o2⟩ := V1.out
            go_upto_region 20 with fail
            clear y0 y1 y2 u0 u1 u2 x0 x1 x2 o0 o1 o2
            have L2 := Lib.hid (L1.out.below N6.out)
            have X2 := Lib.hid (X1.out.1.below N6.out)
            have C7 := Lib.hid (C6.out.below N6.out)
            clear k0 k1' k2' k3' k4 k5 V0 V1 HW0 HW1 HW2 HW3 HW4 HW5 HE0 HE1 HV0 HV1 N0 N1 N2 N3 N4 N5 N6 X1 L1 C6 HU HA G0 G1 G01
            go_wp2_with fail
            refine (n_any 200 (by omega) (by omega) b ra rn rc _ (L2.out.at HS9.out)).mono ?_
            rintro e w20 ⟨r, ⟨hr0, hr1⟩, rfl, hs, he⟩
            have L3 := Lib.hid (L2.out.call hs he.apart)
            have X3 := Lib.hid (X2.out.apart he.apart)
            have C8 := Lib.hid (C7.out.apart he.apart hFb)
            clear hs he
            obtain ⟨w21, hw⟩ : ∃ u, w20.alloc (.cells #[.int .i64 (-1), .int .i64 0, .int .i64 4611686018427387904, .int .i64 1073741824, .int .i64 1125899906842624, .int .i64 1125899906842625] 3) = u := ⟨_, rfl⟩
            have hz : Below w20.heap.size w20 w21 := by rw [← hw]; exact (Below.refl _ _).alloc (Nat.le_refl _) _
            have HQ := Lib.hid (show ∀ i, i < 6 → ∃ z, w21.cell? ⟨w20.heap.size, i, none⟩ = some (.int .i64 z) ∧ In64 z from fun i hi => by
              have h6 : i = 0 ∨ i = 1 ∨ i = 2 ∨ i = 3 ∨ i = 4 ∨ i = 5 := by omega
              rw [← hw]
              rcases h6 with rfl | rfl | rfl | rfl | rfl | rfl
              · exact ⟨-1, cell_new rfl, by omega, by omega⟩
              · exact ⟨0, cell_new rfl, by omega, by omega⟩
              · exact ⟨4611686018427387904, cell_new rfl, by omega, by omega⟩
              · exact ⟨1073741824, cell_new rfl, by omega, by omega⟩
              · exact ⟨1125899906842624, cell_new rfl, by omega, by omega⟩
              · exact ⟨1125899906842625, cell_new rfl, by omega, by omega⟩)
            have hqb : w20.heap.size ≠ b := by have := L3.out.lt; omega
            have L4 := Lib.hid (L3.out.below hz)
            have X4 := Lib.hid (X3.out.below hz)
            have C9 := Lib.hid (C8.out.below hz)
            have HW6 := Lib.hid hw
            clear hz hw
            go_wp2_with fail
            try rw [HW6.out]
            refine (pick_any w20.heap.size 6 6 (by omega) (by omega) b hqb ra rn rc _ (L4.out.at HS9.out) HQ.out).mono ?_
            rintro e w22 ⟨z, hzi, rfl, hs, he⟩
            have L5 := Lib.hid (L4.out.call hs he)
            have X5 := Lib.hid (X4.out.apart he)
            have C10 := Lib.hid (C9.out.apart he hFb)
            obtain ⟨w23, hw⟩ : ∃ u, w22.alloc (.cells #[.int .i64 t, .int .i64 r, .int .i64 z] 3) = u := ⟨_, rfl⟩
            have hz : Below w22.heap.size w22 w23 := by rw [← hw]; exact (Below.refl _ _).alloc (Nat.le_refl _) _
            have T3 := Lib.hid (show ∀ i, i < 3 → ∃ v, w23.cell? ⟨w22.heap.size, i, none⟩ = some (.int .i64 v) ∧ In64 v from by
              rw [← hw]
              exact three_cells HT.out ⟨by omega, by omega⟩ hzi)
            have L6 := Lib.hid (L5.out.below hz)
            have X6 := Lib.hid (X5.out.below hz)
            have C11 := Lib.hid (C10.out.below hz)
            have HW7 := Lib.hid hw
            clear hs he hz hw L2 L3 L4 L5 X2 X3 X4 X5 C7 C8 C9 C10 HQ hqb hzi
            go_wp2_with fail
            try rw [HW7.out]
            obtain ⟨E, hE⟩ : ∃ E, w22.heap.size = E := ⟨_, rfl⟩
            rw [hE] at T3
            try rw [hE]
            clear hE HW6 HW7
            go_loopw [157] (fun s157 wx => ∃ l : Nat, s157 = .int .i64 (l : Int) ∧ l ≤ 3 ∧ Hid (Below w23.heap.size w23 wx)) (fun s157 _ => 3 - (intOf s157).toNat)
            case atStart => exact ⟨0, rfl, by omega, Lib.hid (Below.refl _ _)⟩
            case round =>
              obtain ⟨l, rfl, hl3, HM⟩ := hrel
              obtain ⟨wl, rfl⟩ : ∃ u : World, u = wr := ⟨_, rfl⟩
              by_cases hl : l < 3
              · obtain ⟨x, hx, hxi⟩ := T3.out l hl
                have hx := (HM.out.cell (lt_of_cell hx)).trans hx
                have r0 : (0 : Int) ≤ (l : Int) := by omega
                have r1 : (l : Int) < 3 := by omega
                obtain ⟨kr, br, cr, hR⟩ := rc_u (z := zx) IP.out.1 IP.out.2 x
                have HR := Lib.hid hR
                obtain ⟨k0, k1', k2', k3', k4, k5⟩ := C11.out.below HM.out
                clear hR hxi
                go_wp2_with fail
                clear k0 k1' k2' k3' k4 k5 hx
                refine ((HR.out xa xn xc _ (X6.out.row.under HM.out)).1).mono ?_
                rintro e u1 ⟨rfl, hb⟩
                have M1 := Lib.hid (HM.out.trans (hb.mono HM.out.size))
                clear hb
                obtain ⟨k0, k1', k2', k3', k4, k5⟩ := C11.out.below M1.out
                go_wp2_with fail
                clear k0 k1' k2' k3' k4 k5
                refine ((HR.out xa xn xc _ (X6.out.row.under M1.out)).2).mono ?_
                rintro e u2 ⟨rfl, hb⟩
                have M2 := Lib.hid (M1.out.trans (hb.mono M1.out.size))
                clear hb
                go_wp2_with fail
                go_roundw
                case rel => exact ⟨l + 1, by go_num, by omega, M2⟩
                case measure => simp [intOf]; omega
              · obtain rfl : l = 3 := by omega
                have L7 := Lib.hid (L6.out.below HM.out)
                go_wp2_with fail
                go_roundw
                case rel => exact ⟨k + 1, by go_num, by omega, L7⟩
                case measure => simp [intOf]; omega
          · obtain rfl : k = 8 := by omega
            have HB10 := Lib.hid (HB9.out.trans (HL.out.ap.below HZ0.out.1 HB9.out.size))
            go_wp2_with fail
            refine (awake10 _).mono ?_
            rintro e w10 ⟨rfl, hb⟩
            have HB11 := Lib.hid (HB10.out.trans (hb.mono HB10.out.size))
            clear hb
            go_wp2_with fail
            go_ret
            exact ⟨rfl, HB11.out⟩

end Go.Proofs.Ytjjaaknjdmijbaa
