/- The walk of DeconvolutionAnswers. By the verifier's side. -/
import Derived.Test.YtcbocglakielnaaEDecVDecTDecS
import Derived.Test.YtcbocglakielnaaEDecDDecEDecFDecHDecG
namespace Go.Proofs.Ytcbocglakielnaa
open Go.RowKit
set_option linter.unusedSimpArgs false
set_option linter.unusedVariables false

theorem good_bd8 {zs : List Int} {p : Nat} {inc : Int} (h : Good zs p inc) : ∀ i, i < zs.length → -4611686018427387905 ≤ zs.getD i 0 ∧ zs.getD i 0 ≤ 4611686018427387905 := fun i hi => by
  rcases h.val i hi with ⟨h1, h2⟩ | h1
  · omega
  · rw [h1, show infV = 4611686018427387904 from rfl]; omega
/-- A list of pairs of curves in one block. -/
def Prs (w : World) (b B N : Nat) : Prop :=
  ∀ k, k < N → ∃ (xa : Option Addr) (xn xc : Nat) (zx : List Int) (xp xi : Int) (ya : Option Addr) (yn yc : Nat) (zy : List Int) (yp yi : Int), CurIn w b xa xn xc zx xp xi ∧ CurIn w b ya yn yc zy yp yi ∧
    w.cell? ⟨B, k * 6, none⟩ = some (.slice xa xn xc) ∧ w.cell? ⟨B, k * 6 + 1, none⟩ = some (.int .i64 xp) ∧ w.cell? ⟨B, k * 6 + 2, none⟩ = some (.int .i64 xi) ∧ w.cell? ⟨B, k * 6 + 3, none⟩ = some (.slice ya yn yc) ∧ w.cell? ⟨B, k * 6 + 4, none⟩ = some (.int .i64 yp) ∧ w.cell? ⟨B, k * 6 + 5, none⟩ = some (.int .i64 yi)
theorem Prs.below {w u : World} {b B N : Nat} (h : Prs w b B N) (hb : Below w.heap.size w u) : Prs u b B N := fun k hk => by
  obtain ⟨xa, xn, xc, zx, xp, xi, ya, yn, yc, zy, yp, yi, h1, h2, c0, c1, c2, c3, c4, c5⟩ := h k hk
  exact ⟨xa, xn, xc, zx, xp, xi, ya, yn, yc, zy, yp, yi, h1.below hb, h2.below hb, (hb.cell (lt_of_cell c0)).trans c0, (hb.cell (lt_of_cell c1)).trans c1, (hb.cell (lt_of_cell c2)).trans c2, (hb.cell (lt_of_cell c3)).trans c3, (hb.cell (lt_of_cell c4)).trans c4, (hb.cell (lt_of_cell c5)).trans c5⟩
/-- Six cells. -/
structure Cx6 (w : World) (b : Nat) (x0 x1 x2 x3 x4 x5 : Value) : Prop where
  c0 : w.cell? ⟨b, 0, none⟩ = some x0
  c1 : w.cell? ⟨b, 1, none⟩ = some x1
  c2 : w.cell? ⟨b, 2, none⟩ = some x2
  c3 : w.cell? ⟨b, 3, none⟩ = some x3
  c4 : w.cell? ⟨b, 4, none⟩ = some x4
  c5 : w.cell? ⟨b, 5, none⟩ = some x5
theorem Cx6.below {w u : World} {b : Nat} {x0 x1 x2 x3 x4 x5 : Value} (h : Cx6 w b x0 x1 x2 x3 x4 x5) (hb : Below w.heap.size w u) : Cx6 u b x0 x1 x2 x3 x4 x5 :=
  ⟨(hb.cell (lt_of_cell h.c0)).trans h.c0, (hb.cell (lt_of_cell h.c1)).trans h.c1, (hb.cell (lt_of_cell h.c2)).trans h.c2, (hb.cell (lt_of_cell h.c3)).trans h.c3, (hb.cell (lt_of_cell h.c4)).trans h.c4, (hb.cell (lt_of_cell h.c5)).trans h.c5⟩
theorem cx6_new (w : World) (x0 x1 x2 x3 x4 x5 : Value) (t : TypeId) : Cx6 (w.alloc (.cells #[x0, x1, x2, x3, x4, x5] t)) w.heap.size x0 x1 x2 x3 x4 x5 :=
  ⟨cell_new rfl, cell_new rfl, cell_new rfl, cell_new rfl, cell_new rfl, cell_new rfl⟩
section
variable {w : World} {b : Nat} {a1 a2 a3 a4 a5 a6 a7 a8 a9 : Option Addr} {n1 n2 n3 n4 n5 n6 n7 n8 n9 c1 c2 c3 c4 c5 c6 c7 c8 c9 : Nat} {z1 z2 z3 z4 z5 z6 z7 z8 z9 : List Int} {p1 p2 p3 p4 p5 p6 p7 p8 p9 i1 i2 i3 i4 i5 i6 i7 i8 i9 : Int} {t : TypeId}
theorem prs8 (h1 : CurIn w b a1 n1 c1 z1 p1 i1) (h2 : CurIn w b a2 n2 c2 z2 p2 i2) (h3 : CurIn w b a3 n3 c3 z3 p3 i3) (h4 : CurIn w b a4 n4 c4 z4 p4 i4) (h5 : CurIn w b a5 n5 c5 z5 p5 i5) (h6 : CurIn w b a6 n6 c6 z6 p6 i6) (h7 : CurIn w b a7 n7 c7 z7 p7 i7) (h8 : CurIn w b a8 n8 c8 z8 p8 i8) (h9 : CurIn w b a9 n9 c9 z9 p9 i9) :
    Prs (w.alloc (.cells #[.slice a3 n3 c3, .int .i64 p3, .int .i64 i3, .slice a4 n4 c4, .int .i64 p4, .int .i64 i4, .slice a1 n1 c1, .int .i64 p1, .int .i64 i1, .slice a4 n4 c4, .int .i64 p4, .int .i64 i4, .slice a3 n3 c3, .int .i64 p3, .int .i64 i3, .slice a2 n2 c2, .int .i64 p2, .int .i64 i2, .slice a5 n5 c5, .int .i64 p5, .int .i64 i5, .slice a4 n4 c4, .int .i64 p4, .int .i64 i4, .slice a3 n3 c3, .int .i64 p3, .int .i64 i3, .slice a6 n6 c6, .int .i64 p6, .int .i64 i6, .slice a3 n3 c3, .int .i64 p3, .int .i64 i3, .slice a7 n7 c7, .int .i64 p7, .int .i64 i7, .slice a8 n8 c8, .int .i64 p8, .int .i64 i8, .slice a9 n9 c9, .int .i64 p9, .int .i64 i9, .slice a1 n1 c1, .int .i64 p1, .int .i64 i1, .slice a2 n2 c2, .int .i64 p2, .int .i64 i2] t)) b w.heap.size 8 := fun k hk => by
  have hb := fun o => (Below.refl w.heap.size w).alloc (Nat.le_refl _) o
  have hk5 : k = 0 ∨ k = 1 ∨ k = 2 ∨ k = 3 ∨ k = 4 ∨ k = 5 ∨ k = 6 ∨ k = 7 := by omega
  rcases hk5 with rfl | rfl | rfl | rfl | rfl | rfl | rfl | rfl
  · exact ⟨_, _, _, _, _, _, _, _, _, _, _, _, h3.below (hb _), h4.below (hb _), cell_new rfl, cell_new rfl, cell_new rfl, cell_new rfl, cell_new rfl, cell_new rfl⟩
  · exact ⟨_, _, _, _, _, _, _, _, _, _, _, _, h1.below (hb _), h4.below (hb _), cell_new rfl, cell_new rfl, cell_new rfl, cell_new rfl, cell_new rfl, cell_new rfl⟩
  · exact ⟨_, _, _, _, _, _, _, _, _, _, _, _, h3.below (hb _), h2.below (hb _), cell_new rfl, cell_new rfl, cell_new rfl, cell_new rfl, cell_new rfl, cell_new rfl⟩
  · exact ⟨_, _, _, _, _, _, _, _, _, _, _, _, h5.below (hb _), h4.below (hb _), cell_new rfl, cell_new rfl, cell_new rfl, cell_new rfl, cell_new rfl, cell_new rfl⟩
  · exact ⟨_, _, _, _, _, _, _, _, _, _, _, _, h3.below (hb _), h6.below (hb _), cell_new rfl, cell_new rfl, cell_new rfl, cell_new rfl, cell_new rfl, cell_new rfl⟩
  · exact ⟨_, _, _, _, _, _, _, _, _, _, _, _, h3.below (hb _), h7.below (hb _), cell_new rfl, cell_new rfl, cell_new rfl, cell_new rfl, cell_new rfl, cell_new rfl⟩
  · exact ⟨_, _, _, _, _, _, _, _, _, _, _, _, h8.below (hb _), h9.below (hb _), cell_new rfl, cell_new rfl, cell_new rfl, cell_new rfl, cell_new rfl, cell_new rfl⟩
  · exact ⟨_, _, _, _, _, _, _, _, _, _, _, _, h1.below (hb _), h2.below (hb _), cell_new rfl, cell_new rfl, cell_new rfl, cell_new rfl, cell_new rfl, cell_new rfl⟩
end

set_option maxRecDepth 100000 in
set_option maxHeartbeats 6400000 in
theorem deconvolutionAnswers_walk (W : World) (aR : Option Addr) (nR cR : Nat) (zR : List Int) (pR iR : Int) (aO : Option Addr) (nO cO : Nat) (zO : List Int) (pO iO : Int) (a : Option Addr) (n cap : Nat)
    (hR : nR ≤ 800 → RowZ W aR nR cR zR) (hpR : In64 pR) (hiR : In64 iR) (hO : nO ≤ 800 → RowZ W aO nO cO zO) (hpO : In64 pO) (hiO : In64 iO) (hrow : RowAt W a n cap) :
    Calls Try.prog 7 #[curV aR nR cR pR iR, curV aO nO cO pO iO, .slice a n cap] W fun e w' => e = .returned (.bool true) ∧ Below W.heap.size W w' := by
  have hR0 : ∀ {u : World}, Below W.heap.size W u → RowAt u a n cap := fun hb => RowAt.under hrow hb
  have HIR := Lib.hid (And.intro hpR hiR)
  have HIO := Lib.hid (And.intro hpO hiO)
  clear hrow hpR hiR hpO hiO
  go_enter Try.func7, Try.ntmps7
  have hB0 : Below W.heap.size W ((W.alloc (.cells #[.slice aR nR cR, .int .i64 pR, .int .i64 iR] 24)).alloc (.cells #[.slice aO nO cO, .int .i64 pO, .int .i64 iO] 24)) :=
    ((Below.refl _ _).alloc (Nat.le_refl _) _).alloc (by simp) _
  have HB0 := Lib.hid hB0
  have HR0 := Lib.hid (hR0 hB0)
  have K4 := Lib.hid ((Cur3.new W (.slice aR nR cR) (.int .i64 pR) (.int .i64 iR) 24).alloc (.cells #[.slice aO nO cO, .int .i64 pO, .int .i64 iO] 24))
  have K5 := Lib.hid (Cur3.new2 W (.slice aO nO cO) (.int .i64 pO) (.int .i64 iO) 24 (.cells #[.slice aR nR cR, .int .i64 pR, .int .i64 iR] 24))
  have HSZ := Lib.hid (show ((W.alloc (.cells #[.slice aR nR cR, .int .i64 pR, .int .i64 iR] 24)).alloc (.cells #[.slice aO nO cO, .int .i64 pO, .int .i64 iO] 24)).heap.size = W.heap.size + 1 + 1 by simp)
  have RR0 := Lib.hid (fun hh => (hR hh).under hB0)
  have RO0 := Lib.hid (fun hh => (hO hh).under hB0)
  clear hB0 hR0 hR hO
  go_upto_region 1 with fail
  generalize (W.alloc (.cells #[.slice aR nR cR, .int .i64 pR, .int .i64 iR] 24)).alloc (.cells #[.slice aO nO cO, .int .i64 pO, .int .i64 iO] 24) = w0 at HB0 HR0 K4 K5 HSZ RR0 RO0 ⊢
  obtain ⟨w1, hw1⟩ : ∃ u, w0.alloc (.cells #[.slice aR nR cR, .int .i64 pR, .int .i64 iR, .slice aO nO cO, .int .i64 pO, .int .i64 iO] 24) = u := ⟨_, rfl⟩
  have hb1 : Below w0.heap.size w0 w1 := by rw [← hw1]; exact (Below.refl _ _).alloc (Nat.le_refl _) _
  have HCL := Lib.hid (show ∀ k, k < 2 → Cl8 w1 w0.heap.size k (fun k => if k = 0 then nR ≤ 800 else nO ≤ 800) by
    intro k hk
    have q := cx6_new w0 (.slice aR nR cR) (.int .i64 pR) (.int .i64 iR) (.slice aO nO cO) (.int .i64 pO) (.int .i64 iO) 24
    rw [hw1] at q
    have hk2 : k = 0 ∨ k = 1 := by omega
    rcases hk2 with rfl | rfl
    · exact ⟨aR, nR, cR, zR, pR, iR, q.c0, q.c1, q.c2, fun hh => (RR0.out hh).under hb1, HIR.out.1, HIR.out.2, fun hh => hh⟩
    · exact ⟨aO, nO, cO, zO, pO, iO, q.c3, q.c4, q.c5, fun hh => (RO0.out hh).under hb1, HIO.out.1, HIO.out.2, fun hh => hh⟩)
  have HB1 := Lib.hid (HB0.out.trans (hb1.mono HB0.out.size))
  have HW1 := Lib.hid hb1
  have HX1 := Lib.hid hw1
  clear hw1 hb1
  obtain ⟨c0, c1, c2, f0, f1, f2⟩ := K4.out
  obtain ⟨d0, d1, d2, g0, g1, g2⟩ := K5.out
  go_wp2_with fail
  try rw [HX1.out]
  clear c0 c1 c2 f0 f1 f2 d0 d1 d2 g0 g1 g2
  refine (short8 w0.heap.size _ _ HCL.out).mono ?_
  rintro e w2 ⟨b1, rfl, hw2, hS⟩
  have HB2 := Lib.hid (HB1.out.trans (hw2.mono HB1.out.size))
  have HW2 := Lib.hid (HW1.out.trans (hw2.mono HW1.out.size))
  have HSS := Lib.hid hS
  clear hw2 hS HX1 HCL
  cases b1 with
  | false =>
    go_wp2_with fail
    refine (awake8 _).mono ?_
    rintro e w3 ⟨rfl, hw3⟩
    have HB3 := Lib.hid (HB2.out.trans (hw3.mono HB2.out.size))
    clear hw3
    go_wp2_with fail
    go_ret
    exact ⟨rfl, HB3.out⟩
  | true =>
    have HNN := Lib.hid (show nR ≤ 800 ∧ nO ≤ 800 from HSS.out rfl)
    go_wp2_with fail
    refine (new_any a n cap _ (HR0.out.under HW2.out)).mono ?_
    rintro e w3 ⟨rfl, hb3, hz3, ra, rn, rc, hs3⟩
    have HB3 := Lib.hid (HB2.out.trans (hb3.mono HB2.out.size))
    have HW3 := Lib.hid (HW2.out.trans (hb3.mono HW2.out.size))
    have HS3 := Lib.hid hs3
    have hbW : W.heap.size ≤ w2.heap.size := HB2.out.size
    have hb0 : w0.heap.size ≤ w2.heap.size := HW2.out.size
    have HZ0 := Lib.hid (And.intro hbW hb0)
    have CR := Lib.hid (show CurIn w3 w2.heap.size aR nR cR zR pR iR from (CurIn.old (RR0.out HNN.out.1) HIR.out.1 HIR.out.2 hb0).below HW3.out)
    have CO := Lib.hid (show CurIn w3 w2.heap.size aO nO cO zO pO iO from (CurIn.old (RO0.out HNN.out.2) HIO.out.1 HIO.out.2 hb0).below HW3.out)
    have K4' := Lib.hid (K4.out.below HW3.out)
    have K5' := Lib.hid (K5.out.below HW3.out)
    have h4b : ¬ W.heap.size = w2.heap.size := by have := HSZ.out; omega
    have h5b : ¬ W.heap.size + 1 = w2.heap.size := by have := HSZ.out; omega
    clear hb3 hz3 hs3 hbW hb0 RR0 RO0 K4 K5 HR0 HB2 HB1 HB0 HW1 HW2 HSS HNN
    generalize w2.heap.size = b at *
    go_wp2_with fail
    refine (curve_any 8 (by omega) (by omega) _ ra rn rc _ HS3.out).mono ?_
    rintro e w4 ⟨a1, n1, cap1, zs, p, inc, rfl, hs4, he4, hr4, ok4, hx4⟩
    have HS4 := Lib.hid hs4
    have HB4 := Lib.hid (HB3.out.trans (he4.below HZ0.out.1 HB3.out.size))
    have C1 := Lib.hid (show CurIn w4 b a1 n1 cap1 zs p inc from ⟨hr4, by have := ok4.p8; exact ⟨by omega, by omega⟩, by have := ok4.inc; have := ok4.good.i0; exact ⟨by omega, by omega⟩, fun _ x hx => by have := hx4 x hx; have := HS3.out.lt; omega⟩)
    have OK1 := Lib.hid ok4
    have E4 := Lib.hid he4
    clear hs4 he4 hr4 ok4 hx4
    go_wp2_with fail
    refine (second_any 8 (by omega) (by omega) _ ra rn rc _ HS4.out).mono ?_
    rintro e w5 ⟨a2, n2, cap2, ys, q, jnc, rfl, hs5, he5, hr5, ok5, _, _, hx5⟩
    have HS5 := Lib.hid hs5
    have HB5 := Lib.hid (HB4.out.trans (he5.below HZ0.out.1 HB4.out.size))
    have C2 := Lib.hid (show CurIn w5 b a2 n2 cap2 ys q jnc from ⟨hr5, by have := ok5.p2; exact ⟨by omega, by omega⟩, by have := ok5.i1; have := ok5.i0; exact ⟨by omega, by omega⟩, fun _ x hx => by have := hx5 x hx; have := HS4.out.lt; omega⟩)
    have OK2 := Lib.hid ok5
    have E5 := Lib.hid (E4.out.trans he5)
    have E45 := Lib.hid he5
    clear hs5 he5 hr5 ok5 hx5
    go_wp2_with fail
    have hz5 : w0.heap.size ≤ w5.heap.size := by have := HZ0.out.2; have := HS5.out.lt; omega
    have C1' := Lib.hid (((C1.out.apart E45.out).below ((Below.refl _ _).alloc (Nat.le_refl _) (.cells #[.slice a1 n1 cap1, .int .i64 p, .int .i64 inc] 24))).below ((Below.refl _ _).alloc (Nat.le_refl _) (.cells #[.slice a2 n2 cap2, .int .i64 q, .int .i64 jnc] 24)))
    have C2' := Lib.hid ((C2.out.below ((Below.refl _ _).alloc (Nat.le_refl _) (.cells #[.slice a1 n1 cap1, .int .i64 p, .int .i64 inc] 24))).below ((Below.refl _ _).alloc (Nat.le_refl _) (.cells #[.slice a2 n2 cap2, .int .i64 q, .int .i64 jnc] 24)))
    have CR' := Lib.hid (((CR.out.apart E5.out).below ((Below.refl _ _).alloc (Nat.le_refl _) (.cells #[.slice a1 n1 cap1, .int .i64 p, .int .i64 inc] 24))).below ((Below.refl _ _).alloc (Nat.le_refl _) (.cells #[.slice a2 n2 cap2, .int .i64 q, .int .i64 jnc] 24)))
    have CO' := Lib.hid (((CO.out.apart E5.out).below ((Below.refl _ _).alloc (Nat.le_refl _) (.cells #[.slice a1 n1 cap1, .int .i64 p, .int .i64 inc] 24))).below ((Below.refl _ _).alloc (Nat.le_refl _) (.cells #[.slice a2 n2 cap2, .int .i64 q, .int .i64 jnc] 24)))
    have HS6 := Lib.hid ((HS5.out.under ((Below.refl _ _).alloc (Nat.le_refl _) (.cells #[.slice a1 n1 cap1, .int .i64 p, .int .i64 inc] 24))).under ((Below.refl _ _).alloc (Nat.le_refl _) (.cells #[.slice a2 n2 cap2, .int .i64 q, .int .i64 jnc] 24)))
    have HB6 := Lib.hid ((HB5.out.alloc HB5.out.size (.cells #[.slice a1 n1 cap1, .int .i64 p, .int .i64 inc] 24)).alloc (HB5.out.alloc HB5.out.size (.cells #[.slice a1 n1 cap1, .int .i64 p, .int .i64 inc] 24)).size (.cells #[.slice a2 n2 cap2, .int .i64 q, .int .i64 jnc] 24))
    have B4 := Lib.hid (((K4'.out.apart E5.out h4b).alloc (.cells #[.slice a1 n1 cap1, .int .i64 p, .int .i64 inc] 24)).alloc (.cells #[.slice a2 n2 cap2, .int .i64 q, .int .i64 jnc] 24))
    have B5 := Lib.hid (((K5'.out.apart E5.out h5b).alloc (.cells #[.slice a1 n1 cap1, .int .i64 p, .int .i64 inc] 24)).alloc (.cells #[.slice a2 n2 cap2, .int .i64 q, .int .i64 jnc] 24))
    have B10 := Lib.hid ((Cur3.new w5 (.slice a1 n1 cap1) (.int .i64 p) (.int .i64 inc) 24).alloc (.cells #[.slice a2 n2 cap2, .int .i64 q, .int .i64 jnc] 24))
    have B11 := Lib.hid (Cur3.new2 w5 (.slice a2 n2 cap2) (.int .i64 q) (.int .i64 jnc) 24 (.cells #[.slice a1 n1 cap1, .int .i64 p, .int .i64 inc] 24))
    have h10b : ¬ w5.heap.size = b := by have := HS5.out.lt; omega
    have h11b : ¬ w5.heap.size + 1 = b := by have := HS5.out.lt; omega
    clear hz5 CR CO C1 C2 K4' K5' HS3 HS4 HW3 E5 E45 E4 HB5 HB4 HB3
    generalize (w5.alloc (.cells #[.slice a1 n1 cap1, .int .i64 p, .int .i64 inc] 24)).alloc (.cells #[.slice a2 n2 cap2, .int .i64 q, .int .i64 jnc] 24) = w6 at *
    have HK := Lib.hid (fun u (h : Held w6 b ra rn rc u) => s4_mk B4.out B5.out B10.out B11.out h4b h5b h10b h11b h)
    have HK0 := Lib.hid (HK.out _ (Held.start HS6.out).drew)
    have hn1 : 1 ≤ n1 ∧ n1 ≤ 16 := by have := ok_pos OK1.out; have := OK1.out.few; have := C1'.out.row.len; omega
    have hn2 : 1 ≤ n2 ∧ n2 ≤ 400 := by have := OK2.out.p1; have := OK2.out.p3; have := OK2.out.few; have := C2'.out.row.len; omega
    have P1 := Lib.hid (show (-2000 ≤ (p : Int) ∧ (p : Int) ≤ 2000) ∧ (-4294967296 ≤ inc ∧ inc ≤ 4294967296) from by have := OK1.out.p8; have := OK1.out.inc; have := OK1.out.good.i0; omega)
    have P2 := Lib.hid (show (-2000 ≤ (q : Int) ∧ (q : Int) ≤ 2000) ∧ (-4294967296 ≤ jnc ∧ jnc ≤ 4294967296) from by have := OK2.out.p2; have := OK2.out.i1; have := OK2.out.i0; omega)
    have D1 := Lib.hid (ok_bd OK1.out)
    have D2 := Lib.hid (good_bd8 OK2.out)
    have hbl6 := HS6.out.lt
    go_cut [63, 64, 65] (fun s63 s64 s65 wx => ∃ B, s63 = .slice (some ⟨B, 0, none⟩) 8 8 ∧ s64 = .int .i64 8 ∧ s65 = .int .i64 0 ∧ ¬ B = b ∧ Hid (Prs wx b B 8) ∧ Hid (Held w6 b ra rn rc wx))
    case first =>
      go_region_held3 (fun u => u.cell? ⟨W.heap.size, 0, none⟩ = some (.slice aR nR cR) ∧ u.cell? ⟨W.heap.size, 1, none⟩ = some (.int .i64 pR) ∧ u.cell? ⟨W.heap.size, 2, none⟩ = some (.int .i64 iR) ∧ u.cell? ⟨W.heap.size + 1, 0, none⟩ = some (.slice aO nO cO) ∧ u.cell? ⟨W.heap.size + 1, 1, none⟩ = some (.int .i64 pO) ∧ u.cell? ⟨W.heap.size + 1, 2, none⟩ = some (.int .i64 iO) ∧
          u.cell? ⟨w5.heap.size, 0, none⟩ = some (.slice a1 n1 cap1) ∧ u.cell? ⟨w5.heap.size, 1, none⟩ = some (.int .i64 p) ∧ u.cell? ⟨w5.heap.size, 2, none⟩ = some (.int .i64 inc) ∧ u.cell? ⟨w5.heap.size + 1, 0, none⟩ = some (.slice a2 n2 cap2) ∧ u.cell? ⟨w5.heap.size + 1, 1, none⟩ = some (.int .i64 q) ∧ u.cell? ⟨w5.heap.size + 1, 2, none⟩ = some (.int .i64 jnc) ∧ Hid (Held w6 b ra rn rc u))
        (first | with_reducible exact HK0.out | with_reducible exact HK.out _ ((s4_of (by assumption)).call hs11 he11) | with_reducible exact HK.out _ ((s4_of (by assumption)).call hs10 he10) | with_reducible exact HK.out _ ((s4_of (by assumption)).call hs9 he9) | with_reducible exact HK.out _ ((s4_of (by assumption)).call hs8 he8) | with_reducible exact HK.out _ ((s4_of (by assumption)).call hs7 he7) | with_reducible exact HK.out _ ((s4_of (by assumption)).alloc _) | with_reducible exact HK.out _ ((s4_of (by assumption)).alloc _).drew | with_reducible exact HK.out _ (s4_of (by assumption)).drew)
        (first
          | (go_at_call 17; ((with_reducible refine (bent_any 4611686018427387905 (by decide) (by decide) b ra rn rc a1 n1 cap1 zs p inc hn1.1 (by omega) D1.out P1.out.1 P1.out.2 _ ((s4_of (by assumption)).at HS6.out) (C1'.out.apart (s4_of (by assumption)).ap).row).mono ?_); rintro e w7 ⟨a7, n7, cap7, z7, p7, i7, rfl, hs7, he7, hr7, hm7, hd7, hp7, hi7, hx7⟩; have HL7 := Lib.hid (s4_of (by assumption)).lt))
          | (go_at_call 17; ((with_reducible refine (bent_any 4611686018427387905 (by decide) (by decide) b ra rn rc a2 n2 cap2 ys q jnc hn2.1 (by omega) D2.out P2.out.1 P2.out.2 _ ((s4_of (by assumption)).at HS6.out) (C2'.out.apart (s4_of (by assumption)).ap).row).mono ?_); rintro e w8 ⟨a8, n8, cap8, z8, p8, i8, rfl, hs8, he8, hr8, hm8, hd8, hp8, hi8, hx8⟩; have HL8 := Lib.hid (s4_of (by assumption)).lt))
          | (go_at_call 16; ((refine (curve_any 4 (by omega) (by omega) b ra rn rc _ ((s4_of (by assumption)).at HS6.out)).mono ?_); rintro e w9 ⟨a9, n9, cap9, z9, p9, i9, rfl, hs9, he9, hr9, ok9, hx9⟩; have HL9 := Lib.hid (s4_of (by assumption)).lt))
          | (go_at_call 20; (have HQ10 := hs10; (with_reducible refine (steps_any b ra rn rc _ ((s4_of (by assumption)).at HS6.out)).mono ?_); rintro e w11 ⟨a11, n11, cap11, z11, p11, i11, rfl, hs11, he11, hr11, hp11, hi11, hx11⟩; have HL11 := Lib.hid (s4_of (by assumption)).lt; have HK11 := Lib.hid ((s4_of (by assumption)).call hs11 he11)))
          | (go_at_call 20; ((with_reducible refine (steps_any b ra rn rc _ ((s4_of (by assumption)).at HS6.out)).mono ?_); rintro e w10 ⟨a10, n10, cap10, z10, p10, i10, rfl, hs10, he10, hr10, hp10, hi10, hx10⟩; have HL10 := Lib.hid (s4_of (by assumption)).lt)))
      go_wp2_with fail
      go_meet
      have hH := HK11.out
      have e7 := ((he8.trans he9).trans he10).trans he11
      have e8 := (he9.trans he10).trans he11
      exact ⟨w11.heap.size, rfl, rfl, rfl, by have := hH.lt; omega, prs8 (CR'.out.apart hH.ap) (CO'.out.apart hH.ap) (C1'.out.apart hH.ap) (C2'.out.apart hH.ap) ((bent_in HL7.out hr7 hp7 hi7 hx7).apart e7) ((bent_in HL8.out hr8 hp8 hi8 hx8).apart e8)
        ((show CurIn w9 b a9 n9 cap9 z9 p9 i9 from ⟨hr9, by have := ok9.p8; exact ⟨by omega, by omega⟩, by have := ok9.inc; have := ok9.good.i0; exact ⟨by omega, by omega⟩, fun _ x hx => by have := hx9 x hx; have := HL9.out; omega⟩).apart (he10.trans he11))
        ((show CurIn w10 b a10 n10 cap10 z10 p10 i10 from ⟨hr10, hp10, hi10, fun _ x hx => by have := hx10 x hx; have := HL10.out; omega⟩).apart he11)
        (show CurIn w11 b a11 n11 cap11 z11 p11 i11 from ⟨hr11, hp11, hi11, fun _ x hx => by have := hx11 x hx; have := HL11.out; omega⟩), hH.alloc _⟩
    case rest =>
      obtain ⟨B, rfl, rfl, rfl, hBb, HC, HH⟩ := hcut
      obtain ⟨w9, rfl⟩ : ∃ u : World, u = wc := ⟨_, rfl⟩
      have HB9 := Lib.hid (HB6.out.trans (HH.out.ap.below HZ0.out.1 HB6.out.size))
      clear HK HK0 B4 B5 B10 B11 CR' CO' C1' C2' HH HB6 HS6 P1 P2 D1 D2 hbl6 h4b h5b h10b h11b hBb hn1 hn2 OK1 OK2
      go_wp2_with fail
      go_loopw [65] (fun s65 wx => ∃ k : Nat, s65 = .int .i64 (k : Int) ∧ k ≤ 8 ∧ Hid (Below w9.heap.size w9 wx)) (fun s65 _ => 8 - (intOf s65).toNat)
      case atStart => exact ⟨0, rfl, by omega, Lib.hid (Below.refl _ _)⟩
      case round =>
        obtain ⟨k, rfl, hk5, HL⟩ := hrel
        obtain ⟨wq, rfl⟩ : ∃ u : World, u = wr := ⟨_, rfl⟩
        by_cases hk : k < 8
        · obtain ⟨xa, xn, xc, zx, xp, xi, ya, yn, yc, zy, yp, yi, CX, CY, hc0, hc1, hc2, hc3, hc4, hc5⟩ := HC.out.below HL.out k hk
          have q0 : (0 : Int) ≤ (k : Int) := by omega
          have q1 : (k : Int) < 8 := by omega
          obtain ⟨zs9, zp, zi, zc, zt, hU⟩ := dec_u (z1 := zx) (z2 := zy) CX.ip CX.ii CY.ip CY.ii
          have HU := Lib.hid hU
          have tcc : (zc != zc) = false := by simp
          obtain ⟨wA, hA⟩ : ∃ u, wq.alloc (.cells #[.slice xa xn xc, .int .i64 xp, .int .i64 xi, .slice ya yn yc, .int .i64 yp, .int .i64 yi] 46) = u := ⟨_, rfl⟩
          have hbA : Below wq.heap.size wq wA := by rw [← hA]; exact (Below.refl _ _).alloc (Nat.le_refl _) _
          have C6 := Lib.hid (show Cx6 wA wq.heap.size (.slice xa xn xc) (.int .i64 xp) (.int .i64 xi) (.slice ya yn yc) (.int .i64 yp) (.int .i64 yi) by rw [← hA]; exact cx6_new _ _ _ _ _ _ _ _)
          have X1 := Lib.hid (And.intro (CX.row.under hbA) (CY.row.under hbA))
          have L1 := Lib.hid (HL.out.trans (hbA.mono HL.out.size))
          have HA := Lib.hid hA
          have N0 := Lib.hid (Below.refl wA.heap.size wA)
          obtain ⟨F, hF⟩ : ∃ F, wq.heap.size = F := ⟨_, rfl⟩
          rw [hF] at C6
          clear CX CY hA hbA hU
          go_upto_region 8 with fail
          try rw [HA.out]
          try rw [hF]
          clear hc0 hc1 hc2 hc3 hc4 hc5
          obtain ⟨k0, k1, k2, k3, k4, k5⟩ := C6.out
          go_wp2_with fail
          clear k0 k1 k2 k3 k4 k5
          refine ((HU.out xa xn xc ya yn yc _ (X1.out.1.under N0.out) (X1.out.2.under N0.out)).1).mono ?_
          rintro e va0 ⟨r0, m0, s0, rfl, hb, hr, hx⟩
          obtain ⟨wb0, hw⟩ : ∃ u, va0.alloc (.cells #[.slice r0 m0 s0, .int .i64 zp, .int .i64 zi] 24) = u := ⟨_, rfl⟩
          have hz : Below va0.heap.size va0 wb0 := by rw [← hw]; exact (Below.refl _ _).alloc (Nat.le_refl _) _
          have hz2 := hb.trans (hz.mono hb.size)
          have N1 := Lib.hid (N0.out.trans (hz2.mono N0.out.size))
          have V0 := Lib.hid (show Cur3 wb0 va0.heap.size (.slice r0 m0 s0) (.int .i64 zp) (.int .i64 zi) by rw [← hw]; exact Cur3.new _ _ _ _ _)
          have R0 := Lib.hid (hr.under hz)
          have HW0 := Lib.hid hw
          obtain ⟨b0, hb0⟩ : ∃ x, va0.heap.size = x := ⟨_, rfl⟩
          rw [hb0] at V0
          have HE0 := Lib.hid hb0
          obtain ⟨k0, k1, k2, k3, k4, k5⟩ := C6.out.below N1.out
          clear hb hr hx hz hz2 hw hb0
          go_upto_region 9 with fail
          try rw [HW0.out]
          try rw [HE0.out]
          go_wp2_with fail
          clear k0 k1 k2 k3 k4 k5
          refine ((HU.out xa xn xc ya yn yc _ (X1.out.1.under N1.out) (X1.out.2.under N1.out)).2.1).mono ?_
          rintro e va1 ⟨r1, m1, s1, rfl, hb, hr, hx⟩
          obtain ⟨wb1, hw⟩ : ∃ u, va1.alloc (.cells #[.slice r1 m1 s1, .int .i64 zp, .int .i64 zi] 24) = u := ⟨_, rfl⟩
          have hz : Below va1.heap.size va1 wb1 := by rw [← hw]; exact (Below.refl _ _).alloc (Nat.le_refl _) _
          have hz2 := hb.trans (hz.mono hb.size)
          have N2 := Lib.hid (N1.out.trans (hz2.mono N1.out.size))
          have V1 := Lib.hid (show Cur3 wb1 va1.heap.size (.slice r1 m1 s1) (.int .i64 zp) (.int .i64 zi) by rw [← hw]; exact Cur3.new _ _ _ _ _)
          have R1 := Lib.hid (hr.under hz)
          have HW1 := Lib.hid hw
          obtain ⟨b1, hb1⟩ : ∃ x, va1.heap.size = x := ⟨_, rfl⟩
          rw [hb1] at V1
          have HE1 := Lib.hid hb1
          have V0 := Lib.hid (V0.out.below hz2)
          have R0 := Lib.hid (R0.out.under hz2)
          obtain ⟨k0, k1, k2, k3, k4, k5⟩ := C6.out.below N2.out
          clear hb hr hx hz hz2 hw hb1
          go_upto_region 10 with fail
          try rw [HW1.out]
          try rw [HE1.out]
          go_wp2_with fail
          clear k0 k1 k2 k3 k4 k5
          refine ((HU.out xa xn xc ya yn yc _ (X1.out.1.under N2.out) (X1.out.2.under N2.out)).2.2.1).mono ?_
          rintro e va2 ⟨r2, m2, s2, t2, u2, v2, rfl, hb, hr, ht, hx, hy⟩
          obtain ⟨wb2, hw⟩ : ∃ u, va2.alloc (.cells #[.slice r2 m2 s2, .int .i64 zp, .int .i64 zi, .slice t2 u2 v2] 57) = u := ⟨_, rfl⟩
          have hz : Below va2.heap.size va2 wb2 := by rw [← hw]; exact (Below.refl _ _).alloc (Nat.le_refl _) _
          have hz2 := hb.trans (hz.mono hb.size)
          have N3 := Lib.hid (N2.out.trans (hz2.mono N2.out.size))
          have V2 := Lib.hid (show G4 wb2 va2.heap.size (.slice r2 m2 s2) (.int .i64 zp) (.int .i64 zi) (.slice t2 u2 v2) by rw [← hw]; exact g4_new _ _ _ _ _ _)
          have R2 := Lib.hid (hr.under hz)
          have T2 := Lib.hid (ht.under hz)
          have HW2 := Lib.hid hw
          obtain ⟨b2, hb2⟩ : ∃ x, va2.heap.size = x := ⟨_, rfl⟩
          rw [hb2] at V2
          have HE2 := Lib.hid hb2
          have V0 := Lib.hid (V0.out.below hz2)
          have R0 := Lib.hid (R0.out.under hz2)
          have V1 := Lib.hid (V1.out.below hz2)
          have R1 := Lib.hid (R1.out.under hz2)
          obtain ⟨k0, k1, k2, k3, k4, k5⟩ := C6.out.below N3.out
          clear hb hr hx hz hz2 hw hb2 ht hy
          go_upto_region 11 with fail
          try rw [HW2.out]
          try rw [HE2.out]
          go_wp2_with fail
          clear k0 k1 k2 k3 k4 k5
          refine ((HU.out xa xn xc ya yn yc _ (X1.out.1.under N3.out) (X1.out.2.under N3.out)).2.2.2).mono ?_
          rintro e va3 ⟨r3, m3, s3, t3, u3, v3, rfl, hb, hr, ht, hx, hy⟩
          obtain ⟨wb3, hw⟩ : ∃ u, va3.alloc (.cells #[.slice r3 m3 s3, .int .i64 zp, .int .i64 zi, .slice t3 u3 v3] 57) = u := ⟨_, rfl⟩
          have hz : Below va3.heap.size va3 wb3 := by rw [← hw]; exact (Below.refl _ _).alloc (Nat.le_refl _) _
          have hz2 := hb.trans (hz.mono hb.size)
          have N4 := Lib.hid (N3.out.trans (hz2.mono N3.out.size))
          have V3 := Lib.hid (show G4 wb3 va3.heap.size (.slice r3 m3 s3) (.int .i64 zp) (.int .i64 zi) (.slice t3 u3 v3) by rw [← hw]; exact g4_new _ _ _ _ _ _)
          have R3 := Lib.hid (hr.under hz)
          have T3 := Lib.hid (ht.under hz)
          have HW3 := Lib.hid hw
          obtain ⟨b3, hb3⟩ : ∃ x, va3.heap.size = x := ⟨_, rfl⟩
          rw [hb3] at V3
          have HE3 := Lib.hid hb3
          have V0 := Lib.hid (V0.out.below hz2)
          have R0 := Lib.hid (R0.out.under hz2)
          have V1 := Lib.hid (V1.out.below hz2)
          have R1 := Lib.hid (R1.out.under hz2)
          have V2 := Lib.hid (V2.out.below hz2)
          have R2 := Lib.hid (R2.out.under hz2)
          have T2 := Lib.hid (T2.out.under hz2)
          obtain ⟨k0, k1, k2, k3, k4, k5⟩ := C6.out.below N4.out
          clear hb hr hx hz hz2 hw hb3 ht hy
          go_upto_region 12 with fail
          try rw [HW3.out]
          try rw [HE3.out]
          clear k0 k1 k2 k3 k4 k5
          obtain ⟨c0, c1, c2, f0, f1, f2⟩ := V0.out
          obtain ⟨d0, d1, d2, g0, g1, g2⟩ := V1.out
          obtain ⟨⟨e0, e1, e2, h0, h1, h2⟩, e3, h3⟩ := V2.out
          obtain ⟨⟨l0, l1, l2, o0, o1, o2⟩, l3, o3⟩ := V3.out
          go_wp2_with fail
          clear c0 c1 c2 f0 f1 f2 d0 d1 d2 g0 g1 g2 e0 e1 e2 h0 h1 h2 e3 h3 l0 l1 l2 o0 o1 o2 l3 o3
          refine (rsame_any r0 m0 s0 zs9 zp zi r1 m1 s1 zs9 zp zi true (sameB_self _ _ _) _ R0.out R1.out).mono ?_
          rintro e wz ⟨rfl, hb⟩
          have N5 := Lib.hid (N4.out.trans (hb.mono N4.out.size))
          have R2 := Lib.hid (And.intro (R2.out.under hb) (T2.out.under hb))
          have R3 := Lib.hid (And.intro (R3.out.under hb) (T3.out.under hb))
          obtain ⟨⟨e0, e1, e2, h0, h1, h2⟩, e3, h3⟩ := V2.out.below hb
          obtain ⟨⟨l0, l1, l2, o0, o1, o2⟩, l3, o3⟩ := V3.out.below hb
          clear hb
          go_wp2_with fail
          clear e0 e1 e2 h0 h1 h2 e3 h3 l0 l1 l2 o0 o1 o2 l3 o3
          refine (rsame8_self r2 m2 s2 r3 m3 s3 zs9 zp zi t2 u2 v2 t3 u3 v3 zt _ R2.out.1 R3.out.1 R2.out.2 R3.out.2).mono ?_
          rintro e wy ⟨rfl, hb⟩
          have N6 := Lib.hid (N5.out.trans (hb.mono N5.out.size))
          clear hb
          go_wp2_with fail
          go_roundw
          case rel => exact ⟨k + 1, by go_num, by omega, Lib.hid (L1.out.trans (N6.out.mono L1.out.size))⟩
          case measure => simp [intOf]; omega
        · obtain rfl : k = 8 := by omega
          go_wp2_with fail
          refine (awake8 _).mono ?_
          rintro e w10 ⟨rfl, hb⟩
          have HB10 := Lib.hid ((HB9.out.trans (HL.out.mono HB9.out.size)).trans (hb.mono (HB9.out.trans (HL.out.mono HB9.out.size)).size))
          clear hb
          go_wp2_with fail
          go_ret
          exact ⟨rfl, HB10.out⟩

end Go.Proofs.Ytcbocglakielnaa
