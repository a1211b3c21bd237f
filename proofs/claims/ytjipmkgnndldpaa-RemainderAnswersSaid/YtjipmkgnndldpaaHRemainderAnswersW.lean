/- The walk of RemainderAnswers. By the verifier's side. -/
import Derived.Test.YtjipmkgnndldpaaHRWb
namespace Go.Proofs.Ytjipmkgnndldpaa
open Go.RowKit
set_option linter.unusedSimpArgs false
set_option linter.unusedVariables false

/-- A list of seven curves, of whatever room, as a value. -/
def VN7 (b : Nat) (t : Value) (u : World) : Prop := ∃ (B2 cap2 : Nat), t = .slice (some ⟨B2, 0, none⟩) 7 cap2 ∧ ¬ B2 = b ∧ 7 ≤ cap2 ∧ Curs u b B2 7
theorem VN7.apart {b : Nat} {t : Value} {u v : World} (h : VN7 b t u) (ha : Apart b u v) : VN7 b t v := by
  obtain ⟨B2, cap2, h1, h2, h3, h4⟩ := h
  exact ⟨B2, cap2, h1, h2, h3, h4.apart ha h2⟩
theorem curs1 {w : World} {b : Nat} {a : Option Addr} {n c : Nat} {z : List Int} {p i : Int} {t : TypeId} (h : CurIn w b a n c z p i) : Curs (w.alloc (.cells #[.slice a n c, .int .i64 p, .int .i64 i] t)) b w.heap.size 1 := fun k hk => by
  obtain rfl : k = 0 := by omega
  exact ⟨_, _, _, _, _, _, h.below ((Below.refl w.heap.size w).alloc (Nat.le_refl _) _), cell_new rfl, cell_new rfl, cell_new rfl⟩

set_option maxRecDepth 100000 in
set_option maxHeartbeats 6400000 in
theorem remainderAnswers_walk (W : World) (aR : Option Addr) (nR cR : Nat) (zR : List Int) (pR iR : Int) (aO : Option Addr) (nO cO : Nat) (zO : List Int) (pO iO : Int) (a : Option Addr) (n cap : Nat)
    (hR : nR ≤ 800 → RowZ W aR nR cR zR) (hpR : In64 pR) (hiR : In64 iR) (hO : nO ≤ 800 → RowZ W aO nO cO zO) (hpO : In64 pO) (hiO : In64 iO) (hrow : RowAt W a n cap) :
    Calls Try.prog 10 #[curV aR nR cR pR iR, curV aO nO cO pO iO, .slice a n cap] W fun e w' => e = .returned (.bool true) ∧ Below W.heap.size W w' := by
  have hR0 : ∀ {u : World}, Below W.heap.size W u → RowAt u a n cap := fun hb => RowAt.under hrow hb
  have HIR := Lib.hid (And.intro hpR hiR)
  have HIO := Lib.hid (And.intro hpO hiO)
  clear hrow hpR hiR hpO hiO
  go_enter Try.func10, Try.ntmps10
  have hB0 : Below W.heap.size W ((W.alloc (.cells #[.slice aR nR cR, .int .i64 pR, .int .i64 iR] 38)).alloc (.cells #[.slice aO nO cO, .int .i64 pO, .int .i64 iO] 38)) :=
    ((Below.refl _ _).alloc (Nat.le_refl _) _).alloc (by simp) _
  have HB0 := Lib.hid hB0
  have HR0 := Lib.hid (hR0 hB0)
  have K4 := Lib.hid ((Cur3.new W (.slice aR nR cR) (.int .i64 pR) (.int .i64 iR) 38).alloc (.cells #[.slice aO nO cO, .int .i64 pO, .int .i64 iO] 38))
  have K5 := Lib.hid (Cur3.new2 W (.slice aO nO cO) (.int .i64 pO) (.int .i64 iO) 38 (.cells #[.slice aR nR cR, .int .i64 pR, .int .i64 iR] 38))
  have HSZ := Lib.hid (show ((W.alloc (.cells #[.slice aR nR cR, .int .i64 pR, .int .i64 iR] 38)).alloc (.cells #[.slice aO nO cO, .int .i64 pO, .int .i64 iO] 38)).heap.size = W.heap.size + 1 + 1 by simp)
  have RR0 := Lib.hid (fun hh => (hR hh).under hB0)
  have RO0 := Lib.hid (fun hh => (hO hh).under hB0)
  clear hB0 hR0 hR hO
  go_wp2_with fail
  generalize (W.alloc (.cells #[.slice aR nR cR, .int .i64 pR, .int .i64 iR] 38)).alloc (.cells #[.slice aO nO cO, .int .i64 pO, .int .i64 iO] 38) = w0 at HB0 HR0 K4 K5 HSZ RR0 RO0 ⊢
  obtain ⟨b1, hb1⟩ : ∃ b, decide (nR ≤ 800) = b := ⟨_, rfl⟩
  have HS1 := Lib.hid hb1
  refine (small_any aR nR cR pR iR b1 HS1.out _).mono ?_
  rintro e w1 ⟨rfl, hw1⟩
  have HB1 := Lib.hid (HB0.out.trans (hw1.mono HB0.out.size))
  have HW1 := Lib.hid hw1
  clear hb1 hw1
  cases b1 with
  | false =>
    go_wp2_with fail
    refine (awake6 _).mono ?_
    rintro e w2 ⟨rfl, hw2⟩
    have HB2 := Lib.hid (HB1.out.trans (hw2.mono HB1.out.size))
    go_wp2_with fail
    go_ret
    exact ⟨rfl, HB2.out⟩
  | true =>
    have K5' := K5.out.below HW1.out
    obtain ⟨c0, c1, c2, f0, f1, f2⟩ := K5'
    go_wp2_with fail
    obtain ⟨b2, hb2⟩ : ∃ b, decide (nO ≤ 800) = b := ⟨_, rfl⟩
    have HS2 := Lib.hid hb2
    refine (small_any aO nO cO pO iO b2 HS2.out _).mono ?_
    rintro e w2 ⟨rfl, hw2⟩
    have HB2 := Lib.hid (HB1.out.trans (hw2.mono HB1.out.size))
    have HW2 := Lib.hid (HW1.out.trans (hw2.mono HW1.out.size))
    clear hb2 hw2 c0 c1 c2 f0 f1 f2
    cases b2 with
    | false =>
      go_wp2_with fail
      refine (awake6 _).mono ?_
      rintro e w3 ⟨rfl, hw3⟩
      have HB3 := Lib.hid (HB2.out.trans (hw3.mono HB2.out.size))
      go_wp2_with fail
      go_ret
      exact ⟨rfl, HB3.out⟩
    | true =>
      have hnR : nR ≤ 800 := by simpa using HS1.out
      have hnO : nO ≤ 800 := by simpa using HS2.out
      have HNN := Lib.hid (And.intro hnR hnO)
      clear hnR hnO HS1 HS2
      go_wp2_with fail
      refine (new_any a n cap _ (HR0.out.under HW2.out)).mono ?_
      rintro e w3 ⟨rfl, hb3, hz3, ra, rn, rc, hs3⟩
      have HB3 := Lib.hid (HB2.out.trans (hb3.mono HB2.out.size))
      have HW3 := Lib.hid (HW2.out.trans (hb3.mono HW2.out.size))
      have HS3 := Lib.hid hs3
      have hbW : W.heap.size ≤ w2.heap.size := HB2.out.size
      have hb0 : w0.heap.size ≤ w2.heap.size := HW2.out.size
      have HZ0 := Lib.hid (And.intro hbW hb0)
      have CR := Lib.hid (show CurIn w3 w2.heap.size aR nR cR zR pR iR from (CurIn.old (RR0.out HNN.out.1) HIR.out.1 HIR.out.2 hb0).below HW3.out)
      have CO := Lib.hid (show CurIn w3 w2.heap.size aO nO cO zO pO iO from (CurIn.old (RO0.out HNN.out.2) HIO.out.1 HIO.out.2 hb0).below HW3.out)
      have K4' := Lib.hid (K4.out.below HW3.out)
      have K5' := Lib.hid (K5.out.below HW3.out)
      have h4b : ¬ W.heap.size = w2.heap.size := by have := HSZ.out; omega
      have h5b : ¬ W.heap.size + 1 = w2.heap.size := by have := HSZ.out; omega
      clear hb3 hz3 hs3 hbW hb0 RR0 RO0 K4 K5 HR0 HB2 HB1 HB0 HW1 HW2
      generalize w2.heap.size = b at *
      go_wp2_with fail
      refine (curve_any 9 (by omega) (by omega) _ ra rn rc _ HS3.out).mono ?_
      rintro e w4 ⟨a1, n1, cap1, zs, p, inc, rfl, hs4, he4, hr4, ok4, hx4⟩
      have HS4 := Lib.hid hs4
      have HB4 := Lib.hid (HB3.out.trans (he4.below HZ0.out.1 HB3.out.size))
      have C1 := Lib.hid (show CurIn w4 b a1 n1 cap1 zs p inc from ⟨hr4, by have := ok4.p8; exact ⟨by omega, by omega⟩, by have := ok4.inc; have := ok4.good.i0; exact ⟨by omega, by omega⟩, fun _ x hx => by have := hx4 x hx; have := HS3.out.lt; omega⟩)
      have OK1 := Lib.hid ok4
      have E4 := Lib.hid he4
      clear hs4 he4 hr4 ok4 hx4
      go_wp2_with fail
      refine (curve_any 9 (by omega) (by omega) _ ra rn rc _ HS4.out).mono ?_
      rintro e w5 ⟨a2, n2, cap2, ys, q, jnc, rfl, hs5, he5, hr5, ok5, hx5⟩
      have HS5 := Lib.hid hs5
      have HB5 := Lib.hid (HB4.out.trans (he5.below HZ0.out.1 HB4.out.size))
      have C2 := Lib.hid (show CurIn w5 b a2 n2 cap2 ys q jnc from ⟨hr5, by have := ok5.p8; exact ⟨by omega, by omega⟩, by have := ok5.inc; have := ok5.good.i0; exact ⟨by omega, by omega⟩, fun _ x hx => by have := hx5 x hx; have := HS4.out.lt; omega⟩)
      have OK2 := Lib.hid ok5
      have E5 := Lib.hid (E4.out.trans he5)
      have E45 := Lib.hid he5
      clear hs5 he5 hr5 ok5 hx5
      go_wp2_with fail
      have hz5 : w0.heap.size ≤ w5.heap.size := by have := HZ0.out.2; have := HS5.out.lt; omega
      have C1' := Lib.hid (((C1.out.apart E45.out).below ((Below.refl _ _).alloc (Nat.le_refl _) (.cells #[.slice a1 n1 cap1, .int .i64 p, .int .i64 inc] 38))).below ((Below.refl _ _).alloc (Nat.le_refl _) (.cells #[.slice a2 n2 cap2, .int .i64 q, .int .i64 jnc] 38)))
      have C2' := Lib.hid ((C2.out.below ((Below.refl _ _).alloc (Nat.le_refl _) (.cells #[.slice a1 n1 cap1, .int .i64 p, .int .i64 inc] 38))).below ((Below.refl _ _).alloc (Nat.le_refl _) (.cells #[.slice a2 n2 cap2, .int .i64 q, .int .i64 jnc] 38)))
      have CR' := Lib.hid (((CR.out.apart E5.out).below ((Below.refl _ _).alloc (Nat.le_refl _) (.cells #[.slice a1 n1 cap1, .int .i64 p, .int .i64 inc] 38))).below ((Below.refl _ _).alloc (Nat.le_refl _) (.cells #[.slice a2 n2 cap2, .int .i64 q, .int .i64 jnc] 38)))
      have CO' := Lib.hid (((CO.out.apart E5.out).below ((Below.refl _ _).alloc (Nat.le_refl _) (.cells #[.slice a1 n1 cap1, .int .i64 p, .int .i64 inc] 38))).below ((Below.refl _ _).alloc (Nat.le_refl _) (.cells #[.slice a2 n2 cap2, .int .i64 q, .int .i64 jnc] 38)))
      have HS6 := Lib.hid ((HS5.out.under ((Below.refl _ _).alloc (Nat.le_refl _) (.cells #[.slice a1 n1 cap1, .int .i64 p, .int .i64 inc] 38))).under ((Below.refl _ _).alloc (Nat.le_refl _) (.cells #[.slice a2 n2 cap2, .int .i64 q, .int .i64 jnc] 38)))
      have HB6 := Lib.hid ((HB5.out.alloc HB5.out.size (.cells #[.slice a1 n1 cap1, .int .i64 p, .int .i64 inc] 38)).alloc (HB5.out.alloc HB5.out.size (.cells #[.slice a1 n1 cap1, .int .i64 p, .int .i64 inc] 38)).size (.cells #[.slice a2 n2 cap2, .int .i64 q, .int .i64 jnc] 38))
      have B4 := Lib.hid (((K4'.out.apart E5.out h4b).alloc (.cells #[.slice a1 n1 cap1, .int .i64 p, .int .i64 inc] 38)).alloc (.cells #[.slice a2 n2 cap2, .int .i64 q, .int .i64 jnc] 38))
      have B5 := Lib.hid (((K5'.out.apart E5.out h5b).alloc (.cells #[.slice a1 n1 cap1, .int .i64 p, .int .i64 inc] 38)).alloc (.cells #[.slice a2 n2 cap2, .int .i64 q, .int .i64 jnc] 38))
      have B10 := Lib.hid ((Cur3.new w5 (.slice a1 n1 cap1) (.int .i64 p) (.int .i64 inc) 38).alloc (.cells #[.slice a2 n2 cap2, .int .i64 q, .int .i64 jnc] 38))
      have B11 := Lib.hid (Cur3.new2 w5 (.slice a2 n2 cap2) (.int .i64 q) (.int .i64 jnc) 38 (.cells #[.slice a1 n1 cap1, .int .i64 p, .int .i64 inc] 38))
      have h10b : ¬ w5.heap.size = b := by have := HS5.out.lt; omega
      have h11b : ¬ w5.heap.size + 1 = b := by have := HS5.out.lt; omega
      clear hz5 CR CO C1 C2 K4' K5' HS3 HS4 HW3 E5 E45 E4 HB5 HB4 HB3
      generalize (w5.alloc (.cells #[.slice a1 n1 cap1, .int .i64 p, .int .i64 inc] 38)).alloc (.cells #[.slice a2 n2 cap2, .int .i64 q, .int .i64 jnc] 38) = w6 at *
      have hn1 : 1 ≤ n1 ∧ n1 ≤ 16 := by have := ok_pos OK1.out; have := OK1.out.few; have := C1'.out.row.len; omega
      have hn2 : 1 ≤ n2 ∧ n2 ≤ 16 := by have := ok_pos OK2.out; have := OK2.out.few; have := C2'.out.row.len; omega
      have P1 := Lib.hid (show (-2000 ≤ (p : Int) ∧ (p : Int) ≤ 2000) ∧ (-4294967296 ≤ inc ∧ inc ≤ 4294967296) from by have := OK1.out.p8; have := OK1.out.inc; have := OK1.out.good.i0; omega)
      have P2 := Lib.hid (show (-2000 ≤ (q : Int) ∧ (q : Int) ≤ 2000) ∧ (-4294967296 ≤ jnc ∧ jnc ≤ 4294967296) from by have := OK2.out.p8; have := OK2.out.inc; have := OK2.out.good.i0; omega)
      have D1 := Lib.hid (ok_bd OK1.out)
      have D2 := Lib.hid (ok_bd OK2.out)
      have hbl6 := HS6.out.lt
      have HDZ := Lib.hid (Held.start HS6.out)
      go_cut [10] (fun s10 wx => ∃ B, s10 = .slice (some ⟨B, 0, none⟩) 7 7 ∧ ¬ B = b ∧ Hid (Curs wx b B 7) ∧ Hid (Held w6 b ra rn rc wx))
      case first =>
        refine wp_region_fr (putJ _ 10 38) (fun bb listed wx => ∃ t38 t39 t40 t41 t42 t43 t44 t45 t46 t47 t48 t49 t50 t51 t52 t53 : Value, bb.2 = [t38, t39, t40, t41, t42, t43, t44, t45, t46, t47, t48, t49, t50, t51, t52, t53] ∧ Hid (Held w6 b ra rn rc wx) ∧ (listed.getD 0 false = true → t38 = .agg #[.slice aR nR cR, .int .i64 pR, .int .i64 iR]) ∧ (listed.getD 1 false = true → t39 = .agg #[.slice aO nO cO, .int .i64 pO, .int .i64 iO]) ∧ (listed.getD 2 false = true → t40 = .agg #[.slice a1 n1 cap1, .int .i64 p, .int .i64 inc]) ∧ (listed.getD 3 false = true → t41 = .agg #[.slice a2 n2 cap2, .int .i64 q, .int .i64 jnc]) ∧ (listed.getD 4 false = true → t42 = .pointer (some ⟨b, 0, none⟩)) ∧ (listed.getD 5 false = true → t43 = .agg #[.slice a1 n1 cap1, .int .i64 p, .int .i64 inc]) ∧ (listed.getD 6 false = true → VC b t44 wx) ∧ (listed.getD 7 false = true → t45 = .pointer (some ⟨b, 0, none⟩)) ∧ (listed.getD 8 false = true → VO b t46 wx) ∧ (listed.getD 9 false = true → t47 = .pointer (some ⟨b, 0, none⟩)) ∧ (listed.getD 10 false = true → V3 b t48 wx) ∧ (listed.getD 11 false = true → (∃ z : Int, t49 = .int .i64 z ∧ Tms z)) ∧ (listed.getD 12 false = true → VC b t50 wx) ∧ (listed.getD 13 false = true → t51 = .pointer (some ⟨b, 0, none⟩)) ∧ (listed.getD 14 false = true → VC b t52 wx) ∧ (listed.getD 15 false = true → VN 7 b t53 wx) ∧ (listed.getD 16 false = true → VN 7 b bb.1 wx)) _ (by kernel_rfl) (by kernel_rfl) (putJ_self _ 10 38 16) ?h0 ?hstep ?hdone
        case h0 =>
          exact ⟨_, _, _, _, _, _, _, _, _, _, _, _, _, _, _, _, rfl, HDZ.out.drew, (fun h => absurd h (by decide)), (fun h => absurd h (by decide)), (fun h => absurd h (by decide)), (fun h => absurd h (by decide)), (fun h => absurd h (by decide)), (fun h => absurd h (by decide)), (fun h => absurd h (by decide)), (fun h => absurd h (by decide)), (fun h => absurd h (by decide)), (fun h => absurd h (by decide)), (fun h => absurd h (by decide)), (fun h => absurd h (by decide)), (fun h => absurd h (by decide)), (fun h => absurd h (by decide)), (fun h => absurd h (by decide)), (fun h => absurd h (by decide)), (fun h => absurd h (by decide))⟩
        case hstep =>
          refine StepsJ.cons (j := 1) rfl ?s0 (StepsJ.cons (j := 2) rfl ?s1 (StepsJ.cons (j := 3) rfl ?s2 (StepsJ.cons (j := 4) rfl ?s3 (StepsJ.cons (j := 5) rfl ?s4 (StepsJ.cons (j := 6) rfl ?s5 (StepsJ.cons (j := 7) rfl ?s6 (StepsJ.cons (j := 8) rfl ?s7 (StepsJ.cons (j := 9) rfl ?s8 (StepsJ.cons (j := 10) rfl ?s9 (StepsJ.cons (j := 11) rfl ?s10 (StepsJ.cons (j := 12) rfl ?s11 (StepsJ.cons (j := 13) rfl ?s12 (StepsJ.cons (j := 14) rfl ?s13 (StepsJ.cons (j := 15) rfl ?s14 (StepsJ.cons (j := 16) rfl ?s15 (StepsJ.cons (j := 17) rfl ?s16 (StepsJ.nil)))))))))))))))))
          case s0 =>
            intro listed bb wx hall hI K hK
            obtain ⟨s10, ts⟩ := bb
            obtain ⟨t38, t39, t40, t41, t42, t43, t44, t45, t46, t47, t48, t49, t50, t51, t52, t53, hts, HH, h0, h1, h2, h3, h4, h5, h6, h7, h8, h9, h10, h11, h12, h13, h14, h15, h16⟩ := hI
            rw [if_pos (by rfl)]
            dsimp only at hts h16
            subst hts
            simp only [putJ, putL, Act.put, List.getElem_toArray, List.getElem_cons_zero, List.getElem_cons_succ, List.setIfInBounds_toArray, List.set_cons_zero, List.set_cons_succ]
            obtain ⟨q0, q1, q2, _, _, _⟩ := B4.out.apart HH.out.ap h4b
            go_simp
            have hk := hK.out (s10, [_, t39, t40, t41, t42, t43, t44, t45, t46, t47, t48, t49, t50, t51, t52, t53]) _ ⟨_, t39, t40, t41, t42, t43, t44, t45, t46, t47, t48, t49, t50, t51, t52, t53, rfl, HH, (fun _ => rfl), (keepV h1 (by decide)), (keepV h2 (by decide)), (keepV h3 (by decide)), (keepV h4 (by decide)), (keepV h5 (by decide)), (keepV h6 (by decide)), (keepV h7 (by decide)), (keepV h8 (by decide)), (keepV h9 (by decide)), (keepV h10 (by decide)), (keepV h11 (by decide)), (keepV h12 (by decide)), (keepV h13 (by decide)), (keepV h14 (by decide)), (keepV h15 (by decide)), (keepV h16 (by decide))⟩
            simp only [putJ, putL, Act.put, List.getElem_toArray, List.getElem_cons_zero, List.getElem_cons_succ, List.setIfInBounds_toArray, List.set_cons_zero, List.set_cons_succ] at hk
            exact hk
          case s1 =>
            intro listed bb wx hall hI K hK
            obtain ⟨s10, ts⟩ := bb
            obtain ⟨t38, t39, t40, t41, t42, t43, t44, t45, t46, t47, t48, t49, t50, t51, t52, t53, hts, HH, h0, h1, h2, h3, h4, h5, h6, h7, h8, h9, h10, h11, h12, h13, h14, h15, h16⟩ := hI
            rw [if_pos (by rfl)]
            dsimp only at hts h16
            subst hts
            simp only [putJ, putL, Act.put, List.getElem_toArray, List.getElem_cons_zero, List.getElem_cons_succ, List.setIfInBounds_toArray, List.set_cons_zero, List.set_cons_succ]
            obtain ⟨q0, q1, q2, _, _, _⟩ := B5.out.apart HH.out.ap h5b
            go_simp
            have hk := hK.out (s10, [t38, _, t40, t41, t42, t43, t44, t45, t46, t47, t48, t49, t50, t51, t52, t53]) _ ⟨t38, _, t40, t41, t42, t43, t44, t45, t46, t47, t48, t49, t50, t51, t52, t53, rfl, HH, (keepV h0 (by decide)), (fun _ => rfl), (keepV h2 (by decide)), (keepV h3 (by decide)), (keepV h4 (by decide)), (keepV h5 (by decide)), (keepV h6 (by decide)), (keepV h7 (by decide)), (keepV h8 (by decide)), (keepV h9 (by decide)), (keepV h10 (by decide)), (keepV h11 (by decide)), (keepV h12 (by decide)), (keepV h13 (by decide)), (keepV h14 (by decide)), (keepV h15 (by decide)), (keepV h16 (by decide))⟩
            simp only [putJ, putL, Act.put, List.getElem_toArray, List.getElem_cons_zero, List.getElem_cons_succ, List.setIfInBounds_toArray, List.set_cons_zero, List.set_cons_succ] at hk
            exact hk
          case s2 =>
            intro listed bb wx hall hI K hK
            obtain ⟨s10, ts⟩ := bb
            obtain ⟨t38, t39, t40, t41, t42, t43, t44, t45, t46, t47, t48, t49, t50, t51, t52, t53, hts, HH, h0, h1, h2, h3, h4, h5, h6, h7, h8, h9, h10, h11, h12, h13, h14, h15, h16⟩ := hI
            rw [if_pos (by rfl)]
            dsimp only at hts h16
            subst hts
            simp only [putJ, putL, Act.put, List.getElem_toArray, List.getElem_cons_zero, List.getElem_cons_succ, List.setIfInBounds_toArray, List.set_cons_zero, List.set_cons_succ]
            obtain ⟨q0, q1, q2, _, _, _⟩ := B10.out.apart HH.out.ap h10b
            go_simp
            have hk := hK.out (s10, [t38, t39, _, t41, t42, t43, t44, t45, t46, t47, t48, t49, t50, t51, t52, t53]) _ ⟨t38, t39, _, t41, t42, t43, t44, t45, t46, t47, t48, t49, t50, t51, t52, t53, rfl, HH, (keepV h0 (by decide)), (keepV h1 (by decide)), (fun _ => rfl), (keepV h3 (by decide)), (keepV h4 (by decide)), (keepV h5 (by decide)), (keepV h6 (by decide)), (keepV h7 (by decide)), (keepV h8 (by decide)), (keepV h9 (by decide)), (keepV h10 (by decide)), (keepV h11 (by decide)), (keepV h12 (by decide)), (keepV h13 (by decide)), (keepV h14 (by decide)), (keepV h15 (by decide)), (keepV h16 (by decide))⟩
            simp only [putJ, putL, Act.put, List.getElem_toArray, List.getElem_cons_zero, List.getElem_cons_succ, List.setIfInBounds_toArray, List.set_cons_zero, List.set_cons_succ] at hk
            exact hk
          case s3 =>
            intro listed bb wx hall hI K hK
            obtain ⟨s10, ts⟩ := bb
            obtain ⟨t38, t39, t40, t41, t42, t43, t44, t45, t46, t47, t48, t49, t50, t51, t52, t53, hts, HH, h0, h1, h2, h3, h4, h5, h6, h7, h8, h9, h10, h11, h12, h13, h14, h15, h16⟩ := hI
            rw [if_pos (by rfl)]
            dsimp only at hts h16
            subst hts
            simp only [putJ, putL, Act.put, List.getElem_toArray, List.getElem_cons_zero, List.getElem_cons_succ, List.setIfInBounds_toArray, List.set_cons_zero, List.set_cons_succ]
            obtain ⟨q0, q1, q2, _, _, _⟩ := B11.out.apart HH.out.ap h11b
            go_simp
            have hk := hK.out (s10, [t38, t39, t40, _, t42, t43, t44, t45, t46, t47, t48, t49, t50, t51, t52, t53]) _ ⟨t38, t39, t40, _, t42, t43, t44, t45, t46, t47, t48, t49, t50, t51, t52, t53, rfl, HH, (keepV h0 (by decide)), (keepV h1 (by decide)), (keepV h2 (by decide)), (fun _ => rfl), (keepV h4 (by decide)), (keepV h5 (by decide)), (keepV h6 (by decide)), (keepV h7 (by decide)), (keepV h8 (by decide)), (keepV h9 (by decide)), (keepV h10 (by decide)), (keepV h11 (by decide)), (keepV h12 (by decide)), (keepV h13 (by decide)), (keepV h14 (by decide)), (keepV h15 (by decide)), (keepV h16 (by decide))⟩
            simp only [putJ, putL, Act.put, List.getElem_toArray, List.getElem_cons_zero, List.getElem_cons_succ, List.setIfInBounds_toArray, List.set_cons_zero, List.set_cons_succ] at hk
            exact hk
          case s4 =>
            intro listed bb wx hall hI K hK
            obtain ⟨s10, ts⟩ := bb
            obtain ⟨t38, t39, t40, t41, t42, t43, t44, t45, t46, t47, t48, t49, t50, t51, t52, t53, hts, HH, h0, h1, h2, h3, h4, h5, h6, h7, h8, h9, h10, h11, h12, h13, h14, h15, h16⟩ := hI
            rw [if_pos (by rfl)]
            dsimp only at hts h16
            subst hts
            simp only [putJ, putL, Act.put, List.getElem_toArray, List.getElem_cons_zero, List.getElem_cons_succ, List.setIfInBounds_toArray, List.set_cons_zero, List.set_cons_succ]
            go_simp
            have hk := hK.out (s10, [t38, t39, t40, t41, _, t43, t44, t45, t46, t47, t48, t49, t50, t51, t52, t53]) _ ⟨t38, t39, t40, t41, _, t43, t44, t45, t46, t47, t48, t49, t50, t51, t52, t53, rfl, HH, (keepV h0 (by decide)), (keepV h1 (by decide)), (keepV h2 (by decide)), (keepV h3 (by decide)), (fun _ => rfl), (keepV h5 (by decide)), (keepV h6 (by decide)), (keepV h7 (by decide)), (keepV h8 (by decide)), (keepV h9 (by decide)), (keepV h10 (by decide)), (keepV h11 (by decide)), (keepV h12 (by decide)), (keepV h13 (by decide)), (keepV h14 (by decide)), (keepV h15 (by decide)), (keepV h16 (by decide))⟩
            simp only [putJ, putL, Act.put, List.getElem_toArray, List.getElem_cons_zero, List.getElem_cons_succ, List.setIfInBounds_toArray, List.set_cons_zero, List.set_cons_succ] at hk
            exact hk
          case s5 =>
            intro listed bb wx hall hI K hK
            obtain ⟨s10, ts⟩ := bb
            obtain ⟨t38, t39, t40, t41, t42, t43, t44, t45, t46, t47, t48, t49, t50, t51, t52, t53, hts, HH, h0, h1, h2, h3, h4, h5, h6, h7, h8, h9, h10, h11, h12, h13, h14, h15, h16⟩ := hI
            rw [if_pos (by rfl)]
            dsimp only at hts h16
            subst hts
            simp only [putJ, putL, Act.put, List.getElem_toArray, List.getElem_cons_zero, List.getElem_cons_succ, List.setIfInBounds_toArray, List.set_cons_zero, List.set_cons_succ]
            obtain ⟨q0, q1, q2, _, _, _⟩ := B10.out.apart HH.out.ap h10b
            go_simp
            have hk := hK.out (s10, [t38, t39, t40, t41, t42, _, t44, t45, t46, t47, t48, t49, t50, t51, t52, t53]) _ ⟨t38, t39, t40, t41, t42, _, t44, t45, t46, t47, t48, t49, t50, t51, t52, t53, rfl, HH, (keepV h0 (by decide)), (keepV h1 (by decide)), (keepV h2 (by decide)), (keepV h3 (by decide)), (keepV h4 (by decide)), (fun _ => rfl), (keepV h6 (by decide)), (keepV h7 (by decide)), (keepV h8 (by decide)), (keepV h9 (by decide)), (keepV h10 (by decide)), (keepV h11 (by decide)), (keepV h12 (by decide)), (keepV h13 (by decide)), (keepV h14 (by decide)), (keepV h15 (by decide)), (keepV h16 (by decide))⟩
            simp only [putJ, putL, Act.put, List.getElem_toArray, List.getElem_cons_zero, List.getElem_cons_succ, List.setIfInBounds_toArray, List.set_cons_zero, List.set_cons_succ] at hk
            exact hk
          case s6 =>
            intro listed bb wx hall hI K hK
            obtain ⟨s10, ts⟩ := bb
            obtain ⟨t38, t39, t40, t41, t42, t43, t44, t45, t46, t47, t48, t49, t50, t51, t52, t53, hts, HH, h0, h1, h2, h3, h4, h5, h6, h7, h8, h9, h10, h11, h12, h13, h14, h15, h16⟩ := hI
            rw [if_pos (by rfl)]
            dsimp only at hts h16
            subst hts
            simp only [putJ, putL, Act.put, List.getElem_toArray, List.getElem_cons_zero, List.getElem_cons_succ, List.setIfInBounds_toArray, List.set_cons_zero, List.set_cons_succ]
            have d4 : listed.getD 4 false = true := hall ⟨4, Ground.data⟩ (by simp) (by rfl)
            obtain rfl := h4 d4
            have d5 : listed.getD 5 false = true := hall ⟨5, Ground.data⟩ (by simp) (by rfl)
            obtain rfl := h5 d5
            go_simp
            with_reducible refine (bent_any 4611686018427387905 (by decide) (by decide) b ra rn rc a1 n1 cap1 zs p inc hn1.1 (by omega) D1.out P1.out.1 P1.out.2 _ (HH.out.at HS6.out) (C1'.out.apart HH.out.ap).row).mono ?_
            rintro e w7 ⟨a7, n7, cap7, z7, p7, i7, rfl, hs7, he7, hr7, hm7, hd7, hp7, hi7, hx7⟩
            have HH2 := Lib.hid (HH.out.call hs7 he7)
            have hap := he7
            have hk := hK.out (s10, [t38, t39, t40, t41, _, _, .agg #[.slice a7 n7 cap7, .int .i64 p7, .int .i64 i7], t45, t46, t47, t48, t49, t50, t51, t52, t53]) _ ⟨t38, t39, t40, t41, _, _, .agg #[.slice a7 n7 cap7, .int .i64 p7, .int .i64 i7], t45, t46, t47, t48, t49, t50, t51, t52, t53, rfl, HH2, (keepV h0 (by decide)), (keepV h1 (by decide)), (keepV h2 (by decide)), (keepV h3 (by decide)), (keepV h4 (by decide)), (keepV h5 (by decide)), (fun _ => ⟨_, _, _, _, _, _, rfl, bent_in HH.out.lt hr7 hp7 hi7 hx7⟩), (keepV h7 (by decide)), (fun hd => (keepV h8 (by decide) hd).apart hap), (keepV h9 (by decide)), (fun hd => (keepV h10 (by decide) hd).apart hap), (keepV h11 (by decide)), (fun hd => (keepV h12 (by decide) hd).apart hap), (keepV h13 (by decide)), (fun hd => (keepV h14 (by decide) hd).apart hap), (fun hd => (keepV h15 (by decide) hd).apart hap), (fun hd => (keepV h16 (by decide) hd).apart hap)⟩
            simp only [putJ, putL, Act.put, List.getElem_toArray, List.getElem_cons_zero, List.getElem_cons_succ, List.setIfInBounds_toArray, List.set_cons_zero, List.set_cons_succ] at hk
            exact hk
          case s7 =>
            intro listed bb wx hall hI K hK
            obtain ⟨s10, ts⟩ := bb
            obtain ⟨t38, t39, t40, t41, t42, t43, t44, t45, t46, t47, t48, t49, t50, t51, t52, t53, hts, HH, h0, h1, h2, h3, h4, h5, h6, h7, h8, h9, h10, h11, h12, h13, h14, h15, h16⟩ := hI
            rw [if_pos (by rfl)]
            dsimp only at hts h16
            subst hts
            simp only [putJ, putL, Act.put, List.getElem_toArray, List.getElem_cons_zero, List.getElem_cons_succ, List.setIfInBounds_toArray, List.set_cons_zero, List.set_cons_succ]
            go_simp
            have hk := hK.out (s10, [t38, t39, t40, t41, t42, t43, t44, _, t46, t47, t48, t49, t50, t51, t52, t53]) _ ⟨t38, t39, t40, t41, t42, t43, t44, _, t46, t47, t48, t49, t50, t51, t52, t53, rfl, HH, (keepV h0 (by decide)), (keepV h1 (by decide)), (keepV h2 (by decide)), (keepV h3 (by decide)), (keepV h4 (by decide)), (keepV h5 (by decide)), (keepV h6 (by decide)), (fun _ => rfl), (keepV h8 (by decide)), (keepV h9 (by decide)), (keepV h10 (by decide)), (keepV h11 (by decide)), (keepV h12 (by decide)), (keepV h13 (by decide)), (keepV h14 (by decide)), (keepV h15 (by decide)), (keepV h16 (by decide))⟩
            simp only [putJ, putL, Act.put, List.getElem_toArray, List.getElem_cons_zero, List.getElem_cons_succ, List.setIfInBounds_toArray, List.set_cons_zero, List.set_cons_succ] at hk
            exact hk
          case s8 =>
            intro listed bb wx hall hI K hK
            obtain ⟨s10, ts⟩ := bb
            obtain ⟨t38, t39, t40, t41, t42, t43, t44, t45, t46, t47, t48, t49, t50, t51, t52, t53, hts, HH, h0, h1, h2, h3, h4, h5, h6, h7, h8, h9, h10, h11, h12, h13, h14, h15, h16⟩ := hI
            rw [if_pos (by rfl)]
            dsimp only at hts h16
            subst hts
            simp only [putJ, putL, Act.put, List.getElem_toArray, List.getElem_cons_zero, List.getElem_cons_succ, List.setIfInBounds_toArray, List.set_cons_zero, List.set_cons_succ]
            have d7 : listed.getD 7 false = true := hall ⟨7, Ground.data⟩ (by simp) (by rfl)
            obtain rfl := h7 d7
            go_simp
            refine (curve_any 4 (by omega) (by omega) b ra rn rc _ (HH.out.at HS6.out)).mono ?_
            rintro e w9 ⟨a9, n9, cap9, z9, p9, i9, rfl, hs9, he9, hr9, ok9, hx9⟩
            have HH2 := Lib.hid (HH.out.call hs9 he9)
            have hap := he9
            have hl9 := HH.out.lt
            have hk := hK.out (s10, [t38, t39, t40, t41, t42, t43, t44, _, .agg #[.slice a9 n9 cap9, .int .i64 p9, .int .i64 i9], t47, t48, t49, t50, t51, t52, t53]) _ ⟨t38, t39, t40, t41, t42, t43, t44, _, .agg #[.slice a9 n9 cap9, .int .i64 p9, .int .i64 i9], t47, t48, t49, t50, t51, t52, t53, rfl, HH2, (keepV h0 (by decide)), (keepV h1 (by decide)), (keepV h2 (by decide)), (keepV h3 (by decide)), (keepV h4 (by decide)), (keepV h5 (by decide)), (fun hd => (keepV h6 (by decide) hd).apart hap), (keepV h7 (by decide)), (fun _ => ⟨_, _, _, _, _, _, rfl, ok9, ⟨hr9, by have := ok9.p8; exact ⟨by omega, by omega⟩, by have := ok9.inc; have := ok9.good.i0; exact ⟨by omega, by omega⟩, fun _ x hx => by have := hx9 x hx; omega⟩⟩), (keepV h9 (by decide)), (fun hd => (keepV h10 (by decide) hd).apart hap), (keepV h11 (by decide)), (fun hd => (keepV h12 (by decide) hd).apart hap), (keepV h13 (by decide)), (fun hd => (keepV h14 (by decide) hd).apart hap), (fun hd => (keepV h15 (by decide) hd).apart hap), (fun hd => (keepV h16 (by decide) hd).apart hap)⟩
            simp only [putJ, putL, Act.put, List.getElem_toArray, List.getElem_cons_zero, List.getElem_cons_succ, List.setIfInBounds_toArray, List.set_cons_zero, List.set_cons_succ] at hk
            exact hk
          case s9 =>
            intro listed bb wx hall hI K hK
            obtain ⟨s10, ts⟩ := bb
            obtain ⟨t38, t39, t40, t41, t42, t43, t44, t45, t46, t47, t48, t49, t50, t51, t52, t53, hts, HH, h0, h1, h2, h3, h4, h5, h6, h7, h8, h9, h10, h11, h12, h13, h14, h15, h16⟩ := hI
            rw [if_pos (by rfl)]
            dsimp only at hts h16
            subst hts
            simp only [putJ, putL, Act.put, List.getElem_toArray, List.getElem_cons_zero, List.getElem_cons_succ, List.setIfInBounds_toArray, List.set_cons_zero, List.set_cons_succ]
            go_simp
            have hk := hK.out (s10, [t38, t39, t40, t41, t42, t43, t44, t45, t46, _, t48, t49, t50, t51, t52, t53]) _ ⟨t38, t39, t40, t41, t42, t43, t44, t45, t46, _, t48, t49, t50, t51, t52, t53, rfl, HH, (keepV h0 (by decide)), (keepV h1 (by decide)), (keepV h2 (by decide)), (keepV h3 (by decide)), (keepV h4 (by decide)), (keepV h5 (by decide)), (keepV h6 (by decide)), (keepV h7 (by decide)), (keepV h8 (by decide)), (fun _ => rfl), (keepV h10 (by decide)), (keepV h11 (by decide)), (keepV h12 (by decide)), (keepV h13 (by decide)), (keepV h14 (by decide)), (keepV h15 (by decide)), (keepV h16 (by decide))⟩
            simp only [putJ, putL, Act.put, List.getElem_toArray, List.getElem_cons_zero, List.getElem_cons_succ, List.setIfInBounds_toArray, List.set_cons_zero, List.set_cons_succ] at hk
            exact hk
          case s10 =>
            intro listed bb wx hall hI K hK
            obtain ⟨s10, ts⟩ := bb
            obtain ⟨t38, t39, t40, t41, t42, t43, t44, t45, t46, t47, t48, t49, t50, t51, t52, t53, hts, HH, h0, h1, h2, h3, h4, h5, h6, h7, h8, h9, h10, h11, h12, h13, h14, h15, h16⟩ := hI
            rw [if_pos (by rfl)]
            dsimp only at hts h16
            subst hts
            simp only [putJ, putL, Act.put, List.getElem_toArray, List.getElem_cons_zero, List.getElem_cons_succ, List.setIfInBounds_toArray, List.set_cons_zero, List.set_cons_succ]
            have hlt := HH.out.lt
            go_simp
            have HH2 := Lib.hid (HH.out.alloc (.cells #[.int .i64 7, .int .i64 11, .int .i64 30] 3))
            have hap := (Apart.refl b wx).alloc (.cells #[.int .i64 7, .int .i64 11, .int .i64 30] 3)
            have hk := hK.out (s10, [t38, t39, t40, t41, t42, t43, t44, t45, t46, t47, _, t49, t50, t51, t52, t53]) _ ⟨t38, t39, t40, t41, t42, t43, t44, t45, t46, t47, _, t49, t50, t51, t52, t53, rfl, HH2, (keepV h0 (by decide)), (keepV h1 (by decide)), (keepV h2 (by decide)), (keepV h3 (by decide)), (keepV h4 (by decide)), (keepV h5 (by decide)), (fun hd => (keepV h6 (by decide) hd).apart hap), (keepV h7 (by decide)), (fun hd => (keepV h8 (by decide) hd).apart hap), (keepV h9 (by decide)), (fun _ => ⟨wx.heap.size, rfl, Nat.ne_of_gt hlt, list_newP Tms wx [7, 11, 30] 3 (by unfold Tms; decide)⟩), (keepV h11 (by decide)), (fun hd => (keepV h12 (by decide) hd).apart hap), (keepV h13 (by decide)), (fun hd => (keepV h14 (by decide) hd).apart hap), (fun hd => (keepV h15 (by decide) hd).apart hap), (fun hd => (keepV h16 (by decide) hd).apart hap)⟩
            simp only [putJ, putL, Act.put, List.getElem_toArray, List.getElem_cons_zero, List.getElem_cons_succ, List.setIfInBounds_toArray, List.set_cons_zero, List.set_cons_succ] at hk
            exact hk
          case s11 =>
            intro listed bb wx hall hI K hK
            obtain ⟨s10, ts⟩ := bb
            obtain ⟨t38, t39, t40, t41, t42, t43, t44, t45, t46, t47, t48, t49, t50, t51, t52, t53, hts, HH, h0, h1, h2, h3, h4, h5, h6, h7, h8, h9, h10, h11, h12, h13, h14, h15, h16⟩ := hI
            rw [if_pos (by rfl)]
            dsimp only at hts h16
            subst hts
            simp only [putJ, putL, Act.put, List.getElem_toArray, List.getElem_cons_zero, List.getElem_cons_succ, List.setIfInBounds_toArray, List.set_cons_zero, List.set_cons_succ]
            have d9 : listed.getD 9 false = true := hall ⟨9, Ground.data⟩ (by simp) (by rfl)
            obtain rfl := h9 d9
            have d10 : listed.getD 10 false = true := hall ⟨10, Ground.data⟩ (by simp) (by rfl)
            obtain ⟨G, rfl, hG, hGc⟩ := h10 d10
            go_simp
            with_reducible refine (pick_of Tms (fun _ h => h.in64) G 3 3 (by omega) (by omega) b hG ra rn rc _ (HH.out.at HS6.out) hGc).mono ?_
            rintro e w99 ⟨z, hz, rfl, hs, hap⟩
            have HH2 := Lib.hid (HH.out.call hs hap)
            have hk := hK.out (s10, [t38, t39, t40, t41, t42, t43, t44, t45, t46, _, _, .int .i64 z, t50, t51, t52, t53]) _ ⟨t38, t39, t40, t41, t42, t43, t44, t45, t46, _, _, .int .i64 z, t50, t51, t52, t53, rfl, HH2, (keepV h0 (by decide)), (keepV h1 (by decide)), (keepV h2 (by decide)), (keepV h3 (by decide)), (keepV h4 (by decide)), (keepV h5 (by decide)), (fun hd => (keepV h6 (by decide) hd).apart hap), (keepV h7 (by decide)), (fun hd => (keepV h8 (by decide) hd).apart hap), (keepV h9 (by decide)), (fun hd => (keepV h10 (by decide) hd).apart hap), (fun _ => ⟨_, rfl, hz⟩), (fun hd => (keepV h12 (by decide) hd).apart hap), (keepV h13 (by decide)), (fun hd => (keepV h14 (by decide) hd).apart hap), (fun hd => (keepV h15 (by decide) hd).apart hap), (fun hd => (keepV h16 (by decide) hd).apart hap)⟩
            simp only [putJ, putL, Act.put, List.getElem_toArray, List.getElem_cons_zero, List.getElem_cons_succ, List.setIfInBounds_toArray, List.set_cons_zero, List.set_cons_succ] at hk
            exact hk
          case s12 =>
            intro listed bb wx hall hI K hK
            obtain ⟨s10, ts⟩ := bb
            obtain ⟨t38, t39, t40, t41, t42, t43, t44, t45, t46, t47, t48, t49, t50, t51, t52, t53, hts, HH, h0, h1, h2, h3, h4, h5, h6, h7, h8, h9, h10, h11, h12, h13, h14, h15, h16⟩ := hI
            rw [if_pos (by rfl)]
            dsimp only at hts h16
            subst hts
            simp only [putJ, putL, Act.put, List.getElem_toArray, List.getElem_cons_zero, List.getElem_cons_succ, List.setIfInBounds_toArray, List.set_cons_zero, List.set_cons_succ]
            have d8 : listed.getD 8 false = true := hall ⟨8, Ground.data⟩ (by simp) (by rfl)
            obtain ⟨xa, xn, xc, xz, xp, xi, rfl, ok, hCx⟩ := h8 d8
            have d11 : listed.getD 11 false = true := hall ⟨11, Ground.data⟩ (by simp) (by rfl)
            obtain ⟨z, rfl, hz⟩ := h11 d11
            go_simp
            with_reducible refine (longer_any6 (b := b) xa xn xc xz xp xi ok hz _ HH.out.lt hCx).mono ?_
            rintro e w12 ⟨hb, ya, yn, yc, yz, yp, yi, rfl, hCy⟩
            have HH2 := Lib.hid (HH.out.below hb)
            have hap := below_apart (b := b) hb
            have hk := hK.out (s10, [t38, t39, t40, t41, t42, t43, t44, t45, _, t47, t48, _, .agg #[.slice ya yn yc, .int .i64 yp, .int .i64 yi], t51, t52, t53]) _ ⟨t38, t39, t40, t41, t42, t43, t44, t45, _, t47, t48, _, .agg #[.slice ya yn yc, .int .i64 yp, .int .i64 yi], t51, t52, t53, rfl, HH2, (keepV h0 (by decide)), (keepV h1 (by decide)), (keepV h2 (by decide)), (keepV h3 (by decide)), (keepV h4 (by decide)), (keepV h5 (by decide)), (fun hd => (keepV h6 (by decide) hd).apart hap), (keepV h7 (by decide)), (fun hd => (keepV h8 (by decide) hd).apart hap), (keepV h9 (by decide)), (fun hd => (keepV h10 (by decide) hd).apart hap), (keepV h11 (by decide)), (fun _ => ⟨_, _, _, _, _, _, rfl, hCy⟩), (keepV h13 (by decide)), (fun hd => (keepV h14 (by decide) hd).apart hap), (fun hd => (keepV h15 (by decide) hd).apart hap), (fun hd => (keepV h16 (by decide) hd).apart hap)⟩
            simp only [putJ, putL, Act.put, List.getElem_toArray, List.getElem_cons_zero, List.getElem_cons_succ, List.setIfInBounds_toArray, List.set_cons_zero, List.set_cons_succ] at hk
            exact hk
          case s13 =>
            intro listed bb wx hall hI K hK
            obtain ⟨s10, ts⟩ := bb
            obtain ⟨t38, t39, t40, t41, t42, t43, t44, t45, t46, t47, t48, t49, t50, t51, t52, t53, hts, HH, h0, h1, h2, h3, h4, h5, h6, h7, h8, h9, h10, h11, h12, h13, h14, h15, h16⟩ := hI
            rw [if_pos (by rfl)]
            dsimp only at hts h16
            subst hts
            simp only [putJ, putL, Act.put, List.getElem_toArray, List.getElem_cons_zero, List.getElem_cons_succ, List.setIfInBounds_toArray, List.set_cons_zero, List.set_cons_succ]
            go_simp
            have hk := hK.out (s10, [t38, t39, t40, t41, t42, t43, t44, t45, t46, t47, t48, t49, t50, _, t52, t53]) _ ⟨t38, t39, t40, t41, t42, t43, t44, t45, t46, t47, t48, t49, t50, _, t52, t53, rfl, HH, (keepV h0 (by decide)), (keepV h1 (by decide)), (keepV h2 (by decide)), (keepV h3 (by decide)), (keepV h4 (by decide)), (keepV h5 (by decide)), (keepV h6 (by decide)), (keepV h7 (by decide)), (keepV h8 (by decide)), (keepV h9 (by decide)), (keepV h10 (by decide)), (keepV h11 (by decide)), (keepV h12 (by decide)), (fun _ => rfl), (keepV h14 (by decide)), (keepV h15 (by decide)), (keepV h16 (by decide))⟩
            simp only [putJ, putL, Act.put, List.getElem_toArray, List.getElem_cons_zero, List.getElem_cons_succ, List.setIfInBounds_toArray, List.set_cons_zero, List.set_cons_succ] at hk
            exact hk
          case s14 =>
            intro listed bb wx hall hI K hK
            obtain ⟨s10, ts⟩ := bb
            obtain ⟨t38, t39, t40, t41, t42, t43, t44, t45, t46, t47, t48, t49, t50, t51, t52, t53, hts, HH, h0, h1, h2, h3, h4, h5, h6, h7, h8, h9, h10, h11, h12, h13, h14, h15, h16⟩ := hI
            rw [if_pos (by rfl)]
            dsimp only at hts h16
            subst hts
            simp only [putJ, putL, Act.put, List.getElem_toArray, List.getElem_cons_zero, List.getElem_cons_succ, List.setIfInBounds_toArray, List.set_cons_zero, List.set_cons_succ]
            have d13 : listed.getD 13 false = true := hall ⟨13, Ground.data⟩ (by simp) (by rfl)
            obtain rfl := h13 d13
            go_simp
            with_reducible refine (steps_any b ra rn rc _ (HH.out.at HS6.out)).mono ?_
            rintro e w14 ⟨a11, n11, cap11, z11, p11, i11, rfl, hs11, he11, hr11, hp11, hi11, hx11⟩
            have HH2 := Lib.hid (HH.out.call hs11 he11)
            have hap := he11
            have hl11 := HH.out.lt
            have hk := hK.out (s10, [t38, t39, t40, t41, t42, t43, t44, t45, t46, t47, t48, t49, t50, _, .agg #[.slice a11 n11 cap11, .int .i64 p11, .int .i64 i11], t53]) _ ⟨t38, t39, t40, t41, t42, t43, t44, t45, t46, t47, t48, t49, t50, _, .agg #[.slice a11 n11 cap11, .int .i64 p11, .int .i64 i11], t53, rfl, HH2, (keepV h0 (by decide)), (keepV h1 (by decide)), (keepV h2 (by decide)), (keepV h3 (by decide)), (keepV h4 (by decide)), (keepV h5 (by decide)), (fun hd => (keepV h6 (by decide) hd).apart hap), (keepV h7 (by decide)), (fun hd => (keepV h8 (by decide) hd).apart hap), (keepV h9 (by decide)), (fun hd => (keepV h10 (by decide) hd).apart hap), (keepV h11 (by decide)), (fun hd => (keepV h12 (by decide) hd).apart hap), (keepV h13 (by decide)), (fun _ => ⟨_, _, _, _, _, _, rfl, ⟨hr11, hp11, hi11, fun _ x hx => by have := hx11 x hx; omega⟩⟩), (fun hd => (keepV h15 (by decide) hd).apart hap), (fun hd => (keepV h16 (by decide) hd).apart hap)⟩
            simp only [putJ, putL, Act.put, List.getElem_toArray, List.getElem_cons_zero, List.getElem_cons_succ, List.setIfInBounds_toArray, List.set_cons_zero, List.set_cons_succ] at hk
            exact hk
          case s15 =>
            intro listed bb wx hall hI K hK
            obtain ⟨s10, ts⟩ := bb
            obtain ⟨t38, t39, t40, t41, t42, t43, t44, t45, t46, t47, t48, t49, t50, t51, t52, t53, hts, HH, h0, h1, h2, h3, h4, h5, h6, h7, h8, h9, h10, h11, h12, h13, h14, h15, h16⟩ := hI
            rw [if_pos (by rfl)]
            dsimp only at hts h16
            subst hts
            simp only [putJ, putL, Act.put, List.getElem_toArray, List.getElem_cons_zero, List.getElem_cons_succ, List.setIfInBounds_toArray, List.set_cons_zero, List.set_cons_succ]
            have d0 : listed.getD 0 false = true := hall ⟨0, Ground.data⟩ (by simp) (by rfl)
            obtain rfl := h0 d0
            have d1 : listed.getD 1 false = true := hall ⟨1, Ground.data⟩ (by simp) (by rfl)
            obtain rfl := h1 d1
            have d2 : listed.getD 2 false = true := hall ⟨2, Ground.data⟩ (by simp) (by rfl)
            obtain rfl := h2 d2
            have d3 : listed.getD 3 false = true := hall ⟨3, Ground.data⟩ (by simp) (by rfl)
            obtain rfl := h3 d3
            have d6 : listed.getD 6 false = true := hall ⟨6, Ground.data⟩ (by simp) (by rfl)
            obtain ⟨ua, un, uc, uz, up, ui, rfl, hU⟩ := h6 d6
            have d12 : listed.getD 12 false = true := hall ⟨12, Ground.data⟩ (by simp) (by rfl)
            obtain ⟨va, vn, vc, vz, vp, vi, rfl, hV⟩ := h12 d12
            have d14 : listed.getD 14 false = true := hall ⟨14, Ground.data⟩ (by simp) (by rfl)
            obtain ⟨wa, wn, wc, wz, wp, wi, rfl, hW⟩ := h14 d14
            have hlt := HH.out.lt
            go_simp
            have HH2 := Lib.hid (HH.out.alloc (.cells #[.slice aR nR cR, .int .i64 pR, .int .i64 iR, .slice aO nO cO, .int .i64 pO, .int .i64 iO, .slice a1 n1 cap1, .int .i64 p, .int .i64 inc, .slice a2 n2 cap2, .int .i64 q, .int .i64 jnc, .slice ua un uc, .int .i64 up, .int .i64 ui, .slice va vn vc, .int .i64 vp, .int .i64 vi, .slice wa wn wc, .int .i64 wp, .int .i64 wi] 38))
            have hap := (Apart.refl b wx).alloc (.cells #[.slice aR nR cR, .int .i64 pR, .int .i64 iR, .slice aO nO cO, .int .i64 pO, .int .i64 iO, .slice a1 n1 cap1, .int .i64 p, .int .i64 inc, .slice a2 n2 cap2, .int .i64 q, .int .i64 jnc, .slice ua un uc, .int .i64 up, .int .i64 ui, .slice va vn vc, .int .i64 vp, .int .i64 vi, .slice wa wn wc, .int .i64 wp, .int .i64 wi] 38)
            have hk := hK.out (s10, [_, _, _, _, t42, t43, _, t45, t46, t47, t48, t49, _, t51, _, _]) _ ⟨_, _, _, _, t42, t43, _, t45, t46, t47, t48, t49, _, t51, _, _, rfl, HH2, (keepV h0 (by decide)), (keepV h1 (by decide)), (keepV h2 (by decide)), (keepV h3 (by decide)), (keepV h4 (by decide)), (keepV h5 (by decide)), (fun hd => (keepV h6 (by decide) hd).apart hap), (keepV h7 (by decide)), (fun hd => (keepV h8 (by decide) hd).apart hap), (keepV h9 (by decide)), (fun hd => (keepV h10 (by decide) hd).apart hap), (keepV h11 (by decide)), (fun hd => (keepV h12 (by decide) hd).apart hap), (keepV h13 (by decide)), (fun hd => (keepV h14 (by decide) hd).apart hap), (fun _ => ⟨wx.heap.size, rfl, Nat.ne_of_gt hlt, curs7 (CR'.out.apart HH.out.ap) (CO'.out.apart HH.out.ap) (C1'.out.apart HH.out.ap) (C2'.out.apart HH.out.ap) hU hV hW⟩), (fun hd => (keepV h16 (by decide) hd).apart hap)⟩
            simp only [putJ, putL, Act.put, List.getElem_toArray, List.getElem_cons_zero, List.getElem_cons_succ, List.setIfInBounds_toArray, List.set_cons_zero, List.set_cons_succ] at hk
            exact hk
          case s16 =>
            intro listed bb wx hall hI K hK
            obtain ⟨s10, ts⟩ := bb
            obtain ⟨t38, t39, t40, t41, t42, t43, t44, t45, t46, t47, t48, t49, t50, t51, t52, t53, hts, HH, h0, h1, h2, h3, h4, h5, h6, h7, h8, h9, h10, h11, h12, h13, h14, h15, h16⟩ := hI
            rw [if_pos (by rfl)]
            dsimp only at hts h16
            subst hts
            simp only [putJ, putL, Act.put, List.getElem_toArray, List.getElem_cons_zero, List.getElem_cons_succ, List.setIfInBounds_toArray, List.set_cons_zero, List.set_cons_succ]
            have d15 : listed.getD 15 false = true := hall ⟨15, Ground.data⟩ (by simp) (by rfl)
            obtain ⟨B, rfl, hB, hBc⟩ := h15 d15
            go_simp
            have hk := hK.out (_, [t38, t39, t40, t41, t42, t43, t44, t45, t46, t47, t48, t49, t50, t51, t52, _]) _ ⟨t38, t39, t40, t41, t42, t43, t44, t45, t46, t47, t48, t49, t50, t51, t52, _, rfl, HH, (keepV h0 (by decide)), (keepV h1 (by decide)), (keepV h2 (by decide)), (keepV h3 (by decide)), (keepV h4 (by decide)), (keepV h5 (by decide)), (keepV h6 (by decide)), (keepV h7 (by decide)), (keepV h8 (by decide)), (keepV h9 (by decide)), (keepV h10 (by decide)), (keepV h11 (by decide)), (keepV h12 (by decide)), (keepV h13 (by decide)), (keepV h14 (by decide)), (keepV h15 (by decide)), (fun _ => ⟨B, rfl, hB, hBc⟩)⟩
            simp only [putJ, putL, Act.put, List.getElem_toArray, List.getElem_cons_zero, List.getElem_cons_succ, List.setIfInBounds_toArray, List.set_cons_zero, List.set_cons_succ] at hk
            exact hk
        case hdone =>
          intro listed bb wx hA hI
          obtain ⟨s10, ts⟩ := bb
          obtain ⟨t38, t39, t40, t41, t42, t43, t44, t45, t46, t47, t48, t49, t50, t51, t52, t53, hts, HH, h0, h1, h2, h3, h4, h5, h6, h7, h8, h9, h10, h11, h12, h13, h14, h15, h16⟩ := hI
          dsimp only at hts h16
          subst hts
          obtain ⟨B, rfl, hB, hBc⟩ := h16 (hA 16 (by decide))
          simp only [putJ, putL, Act.put, List.getElem_toArray, List.getElem_cons_zero, List.getElem_cons_succ, List.setIfInBounds_toArray, List.set_cons_zero, List.set_cons_succ]
          try go_wp2_with fail
          go_meet
          exact ⟨B, rfl, hB, hBc, HH⟩
      case rest =>
      obtain ⟨B, rfl, hBb, HC, HH⟩ := hcut
      obtain ⟨w9, rfl⟩ : ∃ u : World, u = wc := ⟨_, rfl⟩
      have HB9 := Lib.hid (HB6.out.trans (HH.out.ap.below HZ0.out.1 HB6.out.size))
      have HS9 := Lib.hid (HH.out.at HS6.out)
      clear HDZ B4 B5 B10 B11 CR' CO' C1' C2' HH HB6 HS6 P1 P2 D1 D2 hbl6 h4b h5b h10b h11b hn1 hn2 OK1 OK2
      go_wp2_with fail
      go_loopw [56] (fun s56 wx => ∃ k : Nat, s56 = .int .i64 (k : Int) ∧ k ≤ 7 ∧ Hid (Held w9 b ra rn rc wx)) (fun s56 _ => 7 - (intOf s56).toNat)
      case atStart => exact ⟨0, rfl, by omega, Held.start HS9.out⟩
      case round =>
      obtain ⟨k, rfl, hk5, HL⟩ := hrel
      obtain ⟨wq, rfl⟩ : ∃ u : World, u = wr := ⟨_, rfl⟩
      by_cases hk : k < 7
      · have hki : (k : Int) < 7 := by omega
        obtain ⟨xa, xn, xc, zx, xp, xi, CX, hc0, hc1, hc2⟩ := HC.out.apart HL.out.ap hBb k hk
        obtain ⟨wA, hw⟩ : ∃ w', wq.alloc (.cells #[.slice xa xn xc, .int .i64 xp, .int .i64 xi] 38) = w' := ⟨_, rfl⟩
        have hz : Below wq.heap.size wq wA := by rw [← hw]; exact below_box _
        have C3 := Lib.hid (show Cur3 wA wq.heap.size (.slice xa xn xc) (.int .i64 xp) (.int .i64 xi) by rw [← hw]; exact Cur3.new _ _ _ _ _)
        have X1 := Lib.hid (CX.below hz)
        have HLA := Lib.hid (HL.out.below hz)
        have HSA := Lib.hid (HLA.out.at HS9.out)
        have hFb : ¬ wq.heap.size = b := by have := HL.out.lt; omega
        have HW := Lib.hid hw
        clear hw hz CX HL
        go_upto_region 9 with fail
        try rw [HW.out]
        obtain ⟨F1, hF1⟩ : ∃ B, wq.heap.size = B := ⟨_, rfl⟩
        rw [hF1] at C3 hFb
        try rw [hF1]
        clear HW hF1 hc0 hc1 hc2
        have HDZ := Lib.hid (Held.start HSA.out)
        go_cut [65, 66, 67] (fun s65 s66 s67 wx => ∃ (B2 cap2 : Nat), s65 = .slice (some ⟨B2, 0, none⟩) 7 cap2 ∧ s66 = .int .i64 7 ∧ s67 = .int .i64 0 ∧ ¬ B2 = b ∧ 7 ≤ cap2 ∧ Hid (Curs wx b B2 7) ∧ Hid (Held wA b ra rn rc wx))
        case first =>
          refine wp_region_inv 60 8 (fun ts listed wx => ∃ t60 t61 t62 t63 t64 t65 t66 t67 : Value, ts = [t60, t61, t62, t63, t64, t65, t66, t67] ∧ Hid (Held wA b ra rn rc wx) ∧ (listed.getD 0 false = true → t60 = .slice (some ⟨B, 0, none⟩) 7 7) ∧ (listed.getD 1 false = true → t61 = .slice (some ⟨B, 3, none⟩) 6 6) ∧ (listed.getD 2 false = true → t62 = .pointer (some ⟨b, 0, none⟩)) ∧ (listed.getD 3 false = true → VC b t63 wx) ∧ (listed.getD 4 false = true → VN 1 b t64 wx) ∧ (listed.getD 5 false = true → VN7 b t65 wx) ∧ (listed.getD 6 false = true → t66 = .int .i64 7) ∧ (listed.getD 7 false = true → t67 = .int .i64 0)) (by kernel_rfl) (by kernel_rfl) ?h0 ?hstep ?hdone
          case h0 =>
            exact ⟨_, _, _, _, _, _, _, _, rfl, HDZ.out.drew, (fun h => absurd h (by decide)), (fun h => absurd h (by decide)), (fun h => absurd h (by decide)), (fun h => absurd h (by decide)), (fun h => absurd h (by decide)), (fun h => absurd h (by decide)), (fun h => absurd h (by decide)), (fun h => absurd h (by decide))⟩
          case hstep =>
            refine StepsI.cons (j := 1) rfl ?s0 (StepsI.cons (j := 2) rfl ?s1 (StepsI.cons (j := 3) rfl ?s2 (StepsI.cons (j := 4) rfl ?s3 (StepsI.cons (j := 5) rfl ?s4 (StepsI.cons (j := 6) rfl ?s5 (StepsI.cons (j := 7) rfl ?s6 (StepsI.cons (j := 8) rfl ?s7 (StepsI.nil))))))))
            case s0 =>
              intro listed ts wx hall hI K hK
              obtain ⟨t60, t61, t62, t63, t64, t65, t66, t67, hts, HH, h0, h1, h2, h3, h4, h5, h6, h7⟩ := hI
              rw [if_pos (by rfl)]
              subst hts
              simp only [putL, Act.put, List.getElem_toArray, List.getElem_cons_zero, List.getElem_cons_succ, List.setIfInBounds_toArray, List.set_cons_zero, List.set_cons_succ]
              go_simp
              have hk := hK.out _ _ ⟨_, t61, t62, t63, t64, t65, t66, t67, rfl, HH, (fun _ => rfl), (keepV h1 (by decide)), (keepV h2 (by decide)), (keepV h3 (by decide)), (keepV h4 (by decide)), (keepV h5 (by decide)), (keepV h6 (by decide)), (keepV h7 (by decide))⟩
              simp only [putL, Act.put, List.getElem_toArray, List.getElem_cons_zero, List.getElem_cons_succ, List.setIfInBounds_toArray, List.set_cons_zero, List.set_cons_succ] at hk
              exact hk
            case s1 =>
              intro listed ts wx hall hI K hK
              obtain ⟨t60, t61, t62, t63, t64, t65, t66, t67, hts, HH, h0, h1, h2, h3, h4, h5, h6, h7⟩ := hI
              rw [if_pos (by rfl)]
              subst hts
              simp only [putL, Act.put, List.getElem_toArray, List.getElem_cons_zero, List.getElem_cons_succ, List.setIfInBounds_toArray, List.set_cons_zero, List.set_cons_succ]
              have d0 : listed.getD 0 false = true := hall ⟨0, Ground.data⟩ (by simp) (by rfl)
              obtain rfl := h0 d0
              go_simp
              have hk := hK.out _ _ ⟨_, _, t62, t63, t64, t65, t66, t67, rfl, HH, (keepV h0 (by decide)), (fun _ => rfl), (keepV h2 (by decide)), (keepV h3 (by decide)), (keepV h4 (by decide)), (keepV h5 (by decide)), (keepV h6 (by decide)), (keepV h7 (by decide))⟩
              simp only [putL, Act.put, List.getElem_toArray, List.getElem_cons_zero, List.getElem_cons_succ, List.setIfInBounds_toArray, List.set_cons_zero, List.set_cons_succ] at hk
              exact hk
            case s2 =>
              intro listed ts wx hall hI K hK
              obtain ⟨t60, t61, t62, t63, t64, t65, t66, t67, hts, HH, h0, h1, h2, h3, h4, h5, h6, h7⟩ := hI
              rw [if_pos (by rfl)]
              subst hts
              simp only [putL, Act.put, List.getElem_toArray, List.getElem_cons_zero, List.getElem_cons_succ, List.setIfInBounds_toArray, List.set_cons_zero, List.set_cons_succ]
              go_simp
              have hk := hK.out _ _ ⟨t60, t61, _, t63, t64, t65, t66, t67, rfl, HH, (keepV h0 (by decide)), (keepV h1 (by decide)), (fun _ => rfl), (keepV h3 (by decide)), (keepV h4 (by decide)), (keepV h5 (by decide)), (keepV h6 (by decide)), (keepV h7 (by decide))⟩
              simp only [putL, Act.put, List.getElem_toArray, List.getElem_cons_zero, List.getElem_cons_succ, List.setIfInBounds_toArray, List.set_cons_zero, List.set_cons_succ] at hk
              exact hk
            case s3 =>
              intro listed ts wx hall hI K hK
              obtain ⟨t60, t61, t62, t63, t64, t65, t66, t67, hts, HH, h0, h1, h2, h3, h4, h5, h6, h7⟩ := hI
              rw [if_pos (by rfl)]
              subst hts
              simp only [putL, Act.put, List.getElem_toArray, List.getElem_cons_zero, List.getElem_cons_succ, List.setIfInBounds_toArray, List.set_cons_zero, List.set_cons_succ]
              have d2 : listed.getD 2 false = true := hall ⟨2, Ground.data⟩ (by simp) (by rfl)
              obtain rfl := h2 d2
              go_simp
              with_reducible refine (steps_any b ra rn rc _ (HH.out.at HSA.out)).mono ?_
              rintro e w14 ⟨a11, n11, cap11, z11, p11, i11, rfl, hs11, he11, hr11, hp11, hi11, hx11⟩
              have HH2 := Lib.hid (HH.out.call hs11 he11)
              have hap := he11
              have hl11 := HH.out.lt
              have hk := hK.out _ _ ⟨t60, t61, _, .agg #[.slice a11 n11 cap11, .int .i64 p11, .int .i64 i11], t64, t65, t66, t67, rfl, HH2, (keepV h0 (by decide)), (keepV h1 (by decide)), (keepV h2 (by decide)), (fun _ => ⟨_, _, _, _, _, _, rfl, ⟨hr11, hp11, hi11, fun _ x hx => by have := hx11 x hx; omega⟩⟩), (fun hd => (keepV h4 (by decide) hd).apart hap), (fun hd => (keepV h5 (by decide) hd).apart hap), (keepV h6 (by decide)), (keepV h7 (by decide))⟩
              simp only [putL, Act.put, List.getElem_toArray, List.getElem_cons_zero, List.getElem_cons_succ, List.setIfInBounds_toArray, List.set_cons_zero, List.set_cons_succ] at hk
              exact hk
            case s4 =>
              intro listed ts wx hall hI K hK
              obtain ⟨t60, t61, t62, t63, t64, t65, t66, t67, hts, HH, h0, h1, h2, h3, h4, h5, h6, h7⟩ := hI
              rw [if_pos (by rfl)]
              subst hts
              simp only [putL, Act.put, List.getElem_toArray, List.getElem_cons_zero, List.getElem_cons_succ, List.setIfInBounds_toArray, List.set_cons_zero, List.set_cons_succ]
              have d3 : listed.getD 3 false = true := hall ⟨3, Ground.data⟩ (by simp) (by rfl)
              obtain ⟨ua, un, uc, uz, up, ui, rfl, hU⟩ := h3 d3
              have hlt := HH.out.lt
              go_simp
              have HH2 := Lib.hid (HH.out.alloc (.cells #[.slice ua un uc, .int .i64 up, .int .i64 ui] 38))
              have hap := (Apart.refl b wx).alloc (.cells #[.slice ua un uc, .int .i64 up, .int .i64 ui] 38)
              have hk := hK.out _ _ ⟨t60, t61, t62, _, _, t65, t66, t67, rfl, HH2, (keepV h0 (by decide)), (keepV h1 (by decide)), (keepV h2 (by decide)), (fun hd => (keepV h3 (by decide) hd).apart hap), (fun _ => ⟨wx.heap.size, rfl, Nat.ne_of_gt hlt, curs1 hU⟩), (fun hd => (keepV h5 (by decide) hd).apart hap), (keepV h6 (by decide)), (keepV h7 (by decide))⟩
              simp only [putL, Act.put, List.getElem_toArray, List.getElem_cons_zero, List.getElem_cons_succ, List.setIfInBounds_toArray, List.set_cons_zero, List.set_cons_succ] at hk
              exact hk
            case s5 =>
              intro listed ts wx hall hI K hK
              obtain ⟨t60, t61, t62, t63, t64, t65, t66, t67, hts, HH, h0, h1, h2, h3, h4, h5, h6, h7⟩ := hI
              rw [if_pos (by rfl)]
              subst hts
              simp only [putL, Act.put, List.getElem_toArray, List.getElem_cons_zero, List.getElem_cons_succ, List.setIfInBounds_toArray, List.set_cons_zero, List.set_cons_succ]
              have d1 : listed.getD 1 false = true := hall ⟨1, Ground.data⟩ (by simp) (by rfl)
              obtain rfl := h1 d1
              have d4 : listed.getD 4 false = true := hall ⟨4, Ground.data⟩ (by simp) (by rfl)
              obtain ⟨G, rfl, hG, hGc⟩ := h4 d4
              obtain ⟨v', w', hr, hb, B2, cap2, rfl, hB2, hcp, hC2⟩ := run_append_curves6 wx b B G (HC.out.apart (HLA.out.ap.trans HH.out.ap) hBb) hGc HH.out.lt
              refine wp_append_eq _ _ _ rfl _ _ _ rfl rfl hr ?_
              simp only [Act.put, List.getElem_toArray, List.getElem_cons_zero, List.getElem_cons_succ, List.setIfInBounds_toArray, List.set_cons_zero, List.set_cons_succ]
              have HH2 := Lib.hid (HH.out.below hb)
              have hap := below_apart (b := b) hb
              have hk := hK.out _ _ ⟨t60, _, t62, t63, _, .slice (some ⟨B2, 0, none⟩) 7 cap2, t66, t67, rfl, HH2, (keepV h0 (by decide)), (keepV h1 (by decide)), (keepV h2 (by decide)), (fun hd => (keepV h3 (by decide) hd).apart hap), (fun hd => (keepV h4 (by decide) hd).apart hap), (fun _ => ⟨B2, cap2, rfl, hB2, hcp, hC2⟩), (keepV h6 (by decide)), (keepV h7 (by decide))⟩
              simp only [putL, Act.put, List.getElem_toArray, List.getElem_cons_zero, List.getElem_cons_succ, List.setIfInBounds_toArray, List.set_cons_zero, List.set_cons_succ] at hk
              exact hk
            case s6 =>
              intro listed ts wx hall hI K hK
              obtain ⟨t60, t61, t62, t63, t64, t65, t66, t67, hts, HH, h0, h1, h2, h3, h4, h5, h6, h7⟩ := hI
              rw [if_pos (by rfl)]
              subst hts
              simp only [putL, Act.put, List.getElem_toArray, List.getElem_cons_zero, List.getElem_cons_succ, List.setIfInBounds_toArray, List.set_cons_zero, List.set_cons_succ]
              have d5 : listed.getD 5 false = true := hall ⟨5, Ground.data⟩ (by simp) (by rfl)
              obtain ⟨B2, cap2, rfl, hB2, hcp, hC2⟩ := h5 d5
              go_simp
              have hk := hK.out _ _ ⟨t60, t61, t62, t63, t64, _, _, t67, rfl, HH, (keepV h0 (by decide)), (keepV h1 (by decide)), (keepV h2 (by decide)), (keepV h3 (by decide)), (keepV h4 (by decide)), (keepV h5 (by decide)), (fun _ => rfl), (keepV h7 (by decide))⟩
              simp only [putL, Act.put, List.getElem_toArray, List.getElem_cons_zero, List.getElem_cons_succ, List.setIfInBounds_toArray, List.set_cons_zero, List.set_cons_succ] at hk
              exact hk
            case s7 =>
              intro listed ts wx hall hI K hK
              obtain ⟨t60, t61, t62, t63, t64, t65, t66, t67, hts, HH, h0, h1, h2, h3, h4, h5, h6, h7⟩ := hI
              rw [if_pos (by rfl)]
              subst hts
              simp only [putL, Act.put, List.getElem_toArray, List.getElem_cons_zero, List.getElem_cons_succ, List.setIfInBounds_toArray, List.set_cons_zero, List.set_cons_succ]
              go_simp
              have hk := hK.out _ _ ⟨t60, t61, t62, t63, t64, t65, t66, _, rfl, HH, (keepV h0 (by decide)), (keepV h1 (by decide)), (keepV h2 (by decide)), (keepV h3 (by decide)), (keepV h4 (by decide)), (keepV h5 (by decide)), (keepV h6 (by decide)), (fun _ => rfl)⟩
              simp only [putL, Act.put, List.getElem_toArray, List.getElem_cons_zero, List.getElem_cons_succ, List.setIfInBounds_toArray, List.set_cons_zero, List.set_cons_succ] at hk
              exact hk
          case hdone =>
            intro listed ts wx hA hI
            obtain ⟨t60, t61, t62, t63, t64, t65, t66, t67, rfl, HH, h0, h1, h2, h3, h4, h5, h6, h7⟩ := hI
            obtain ⟨B2, cap2, rfl, hB2, hcp, hC2⟩ := h5 (hA 5 (by decide))
            obtain rfl := h6 (hA 6 (by decide))
            obtain rfl := h7 (hA 7 (by decide))
            simp only [putL, Act.put, List.getElem_toArray, List.getElem_cons_zero, List.getElem_cons_succ, List.setIfInBounds_toArray, List.set_cons_zero, List.set_cons_succ]
            try go_wp2_with fail
            go_meet
            exact ⟨B2, cap2, rfl, rfl, rfl, hB2, hcp, hC2, HH⟩
        case rest =>
        obtain ⟨B2, cap2, rfl, rfl, rfl, hB2, hcp, HC2, HHc⟩ := hcut
        obtain ⟨w10, rfl⟩ : ∃ u : World, u = wc := ⟨_, rfl⟩
        have HL10 := Lib.hid (HLA.out.call (HHc.out.at HSA.out) HHc.out.ap)
        have X2 := Lib.hid (X1.out.apart HHc.out.ap)
        have C2x := Lib.hid (C3.out.apart HHc.out.ap hFb)
        clear HDZ HHc X1 C3 HLA HSA
        go_wp2_with fail
        go_loopw [67] (fun s67 wx => ∃ j : Nat, s67 = .int .i64 (j : Int) ∧ j ≤ 7 ∧ Hid (Below w10.heap.size w10 wx)) (fun s67 _ => 7 - (intOf s67).toNat)
        case atStart => exact ⟨0, rfl, by omega, Lib.hid (Below.refl _ _)⟩
        case round =>
        obtain ⟨j, rfl, hj5, HLj⟩ := hrel
        obtain ⟨wj, rfl⟩ : ∃ u : World, u = wr := ⟨_, rfl⟩
        by_cases hj7 : j < 7
        · have hji : (j : Int) < 7 := by omega
          obtain ⟨ya, yn, yc, zy, yp, yi, CY, e0, e1, e2⟩ := HC2.out.below HLj.out j hj7
          obtain ⟨r, s, hU⟩ := rem_u (z1 := zx) (z2 := zy) X2.out.ip X2.out.ii CY.ip CY.ii
          have HU := Lib.hid hU
          have tr : (r.c != r.c) = false := by simp
          have tsc : (s.c != s.c) = false := by simp
          obtain ⟨wE, hw⟩ : ∃ w', wj.alloc (.cells #[.slice ya yn yc, .int .i64 yp, .int .i64 yi] 38) = w' := ⟨_, rfl⟩
          have hz : Below wj.heap.size wj wE := by rw [← hw]; exact below_box _
          have CYE := Lib.hid (show Cur3 wE wj.heap.size (.slice ya yn yc) (.int .i64 yp) (.int .i64 yi) by rw [← hw]; exact Cur3.new _ _ _ _ _)
          have RY := Lib.hid (CY.row.under hz)
          have RX := Lib.hid (X2.out.row.under (HLj.out.trans (hz.mono HLj.out.size)))
          have C3E := Lib.hid (C2x.out.below (HLj.out.trans (hz.mono HLj.out.size)))
          have N0 := Lib.hid (Below.refl wE.heap.size wE)
          have LE := Lib.hid (HLj.out.trans (hz.mono HLj.out.size))
          have HW := Lib.hid hw
          clear hw hz hU CY
          go_upto_region 12 with fail
          try rw [HW.out]
          obtain ⟨F2, hF2⟩ : ∃ B, wj.heap.size = B := ⟨_, rfl⟩
          rw [hF2] at CYE
          try rw [hF2]
          clear HW hF2 e0 e1 e2
          obtain ⟨k0, k1, k2, k3, k4, k5⟩ := C3E.out
          obtain ⟨l0, l1, l2, l3, l4, l5⟩ := CYE.out
          go_wp2_with fail
          clear k0 k1 k2 k3 k4 k5 l0 l1 l2 l3 l4 l5
          refine ((HU.out xa xn xc ya yn yc _ (RX.out.under N0.out) (RY.out.under N0.out)).1).mono ?_
          rintro e va0 ⟨r0, m0, s0, rfl, hb, hr, hx⟩
          obtain ⟨wb0, hw⟩ : ∃ u, va0.alloc (.cells #[.slice r0 m0 s0, .int .i64 r.p, .int .i64 r.inc] 38) = u := ⟨_, rfl⟩
          have hz : Below va0.heap.size va0 wb0 := by rw [← hw]; exact below_box _
          have hz2 := hb.trans (hz.mono hb.size)
          have N1 := Lib.hid (N0.out.trans (hz2.mono N0.out.size))
          have V0 := Lib.hid (show Cur3 wb0 va0.heap.size (.slice r0 m0 s0) (.int .i64 r.p) (.int .i64 r.inc) by rw [← hw]; exact Cur3.new _ _ _ _ _)
          have R0 := Lib.hid (hr.under hz)
          have HW0 := Lib.hid hw
          obtain ⟨b0, hb0⟩ : ∃ x, va0.heap.size = x := ⟨_, rfl⟩
          rw [hb0] at V0
          have HE0 := Lib.hid hb0
          obtain ⟨k0, k1, k2, k3, k4, k5⟩ := C3E.out.below N1.out
          obtain ⟨l0, l1, l2, l3, l4, l5⟩ := CYE.out.below N1.out
          clear hb hr hx hz hz2 hw hb0
          go_upto_region 13 with fail
          try rw [HW0.out]
          try rw [HE0.out]
          go_wp2_with fail
          clear k0 k1 k2 k3 k4 k5 l0 l1 l2 l3 l4 l5
          refine ((HU.out xa xn xc ya yn yc _ (RX.out.under N1.out) (RY.out.under N1.out)).2.1).mono ?_
          rintro e va1 ⟨r1, m1, s1, rfl, hb, hr, hx⟩
          obtain ⟨wb1, hw⟩ : ∃ u, va1.alloc (.cells #[.slice r1 m1 s1, .int .i64 r.p, .int .i64 r.inc] 38) = u := ⟨_, rfl⟩
          have hz : Below va1.heap.size va1 wb1 := by rw [← hw]; exact below_box _
          have hz2 := hb.trans (hz.mono hb.size)
          have N2 := Lib.hid (N1.out.trans (hz2.mono N1.out.size))
          have V1 := Lib.hid (show Cur3 wb1 va1.heap.size (.slice r1 m1 s1) (.int .i64 r.p) (.int .i64 r.inc) by rw [← hw]; exact Cur3.new _ _ _ _ _)
          have R1 := Lib.hid (hr.under hz)
          have HW1 := Lib.hid hw
          obtain ⟨b1, hb1⟩ : ∃ x, va1.heap.size = x := ⟨_, rfl⟩
          rw [hb1] at V1
          have HE1 := Lib.hid hb1
          have V0 := Lib.hid (V0.out.below hz2)
          have R0 := Lib.hid (R0.out.under hz2)
          obtain ⟨k0, k1, k2, k3, k4, k5⟩ := C3E.out.below N2.out
          obtain ⟨l0, l1, l2, l3, l4, l5⟩ := CYE.out.below N2.out
          clear hb hr hx hz hz2 hw hb1
          go_upto_region 14 with fail
          try rw [HW1.out]
          try rw [HE1.out]
          go_wp2_with fail
          clear k0 k1 k2 k3 k4 k5 l0 l1 l2 l3 l4 l5
          refine ((HU.out xa xn xc ya yn yc _ (RX.out.under N2.out) (RY.out.under N2.out)).2.2.1).mono ?_
          rintro e va2 ⟨r2, m2, s2, rfl, hb, hr, hx⟩
          obtain ⟨wb2, hw⟩ : ∃ u, va2.alloc (.cells #[.slice r2 m2 s2, .int .i64 s.p, .int .i64 s.inc] 38) = u := ⟨_, rfl⟩
          have hz : Below va2.heap.size va2 wb2 := by rw [← hw]; exact below_box _
          have hz2 := hb.trans (hz.mono hb.size)
          have N3 := Lib.hid (N2.out.trans (hz2.mono N2.out.size))
          have V2 := Lib.hid (show Cur3 wb2 va2.heap.size (.slice r2 m2 s2) (.int .i64 s.p) (.int .i64 s.inc) by rw [← hw]; exact Cur3.new _ _ _ _ _)
          have R2 := Lib.hid (hr.under hz)
          have HW2 := Lib.hid hw
          obtain ⟨b2, hb2⟩ : ∃ x, va2.heap.size = x := ⟨_, rfl⟩
          rw [hb2] at V2
          have HE2 := Lib.hid hb2
          have V0 := Lib.hid (V0.out.below hz2)
          have R0 := Lib.hid (R0.out.under hz2)
          have V1 := Lib.hid (V1.out.below hz2)
          have R1 := Lib.hid (R1.out.under hz2)
          obtain ⟨k0, k1, k2, k3, k4, k5⟩ := C3E.out.below N3.out
          obtain ⟨l0, l1, l2, l3, l4, l5⟩ := CYE.out.below N3.out
          clear hb hr hx hz hz2 hw hb2
          go_upto_region 15 with fail
          try rw [HW2.out]
          try rw [HE2.out]
          go_wp2_with fail
          clear k0 k1 k2 k3 k4 k5 l0 l1 l2 l3 l4 l5
          refine ((HU.out xa xn xc ya yn yc _ (RX.out.under N3.out) (RY.out.under N3.out)).2.2.2).mono ?_
          rintro e va3 ⟨r3, m3, s3, rfl, hb, hr, hx⟩
          obtain ⟨wb3, hw⟩ : ∃ u, va3.alloc (.cells #[.slice r3 m3 s3, .int .i64 s.p, .int .i64 s.inc] 38) = u := ⟨_, rfl⟩
          have hz : Below va3.heap.size va3 wb3 := by rw [← hw]; exact below_box _
          have hz2 := hb.trans (hz.mono hb.size)
          have N4 := Lib.hid (N3.out.trans (hz2.mono N3.out.size))
          have V3 := Lib.hid (show Cur3 wb3 va3.heap.size (.slice r3 m3 s3) (.int .i64 s.p) (.int .i64 s.inc) by rw [← hw]; exact Cur3.new _ _ _ _ _)
          have R3 := Lib.hid (hr.under hz)
          have HW3 := Lib.hid hw
          obtain ⟨b3, hb3⟩ : ∃ x, va3.heap.size = x := ⟨_, rfl⟩
          rw [hb3] at V3
          have HE3 := Lib.hid hb3
          have V0 := Lib.hid (V0.out.below hz2)
          have R0 := Lib.hid (R0.out.under hz2)
          have V1 := Lib.hid (V1.out.below hz2)
          have R1 := Lib.hid (R1.out.under hz2)
          have V2 := Lib.hid (V2.out.below hz2)
          have R2 := Lib.hid (R2.out.under hz2)
          obtain ⟨k0, k1, k2, k3, k4, k5⟩ := C3E.out.below N4.out
          obtain ⟨l0, l1, l2, l3, l4, l5⟩ := CYE.out.below N4.out
          clear hb hr hx hz hz2 hw hb3
          go_upto_region 16 with fail
          try rw [HW3.out]
          try rw [HE3.out]
          clear k0 k1 k2 k3 k4 k5 l0 l1 l2 l3 l4 l5
          obtain ⟨c0, c1, c2, f0, f1, f2⟩ := V0.out
          obtain ⟨d0, d1, d2, g0, g1, g2⟩ := V1.out
          go_wp2_with fail
          clear c0 c1 c2 f0 f1 f2 d0 d1 d2 g0 g1 g2
          refine (rsame_any r0 m0 s0 r.zs r.p r.inc r1 m1 s1 r.zs r.p r.inc true (sameB_self _ _ _) _ R0.out R1.out).mono ?_
          rintro e wz ⟨rfl, hb⟩
          have N5 := Lib.hid (N4.out.trans (hb.mono N4.out.size))
          have R2 := Lib.hid (R2.out.under hb)
          have R3 := Lib.hid (R3.out.under hb)
          obtain ⟨c0, c1, c2, f0, f1, f2⟩ := V2.out.below hb
          obtain ⟨d0, d1, d2, g0, g1, g2⟩ := V3.out.below hb
          clear hb
          go_wp2_with fail
          clear c0 c1 c2 f0 f1 f2 d0 d1 d2 g0 g1 g2
          refine (rsame_any r2 m2 s2 s.zs s.p s.inc r3 m3 s3 s.zs s.p s.inc true (sameB_self _ _ _) _ R2.out R3.out).mono ?_
          rintro e wy ⟨rfl, hb⟩
          have N6 := Lib.hid (N5.out.trans (hb.mono N5.out.size))
          clear hb
          go_wp2_with fail
          go_roundw
          case rel => exact ⟨j + 1, by go_num, by omega, Lib.hid (LE.out.trans (N6.out.mono LE.out.size))⟩
          case measure => simp [intOf]; omega
        have hji : ¬ (j : Int) < 7 := by omega
        have HLE := Lib.hid (HL10.out.below HLj.out)
        clear HLj
        go_wp2_with fail
        go_roundw
        case rel => exact ⟨k + 1, by go_num, by omega, HLE⟩
        case measure => simp [intOf]; omega
      have hki : ¬ (k : Int) < 7 := by omega
      have HBE := Lib.hid (HB9.out.trans (HL.out.ap.below (Nat.le_trans HZ0.out.1 (Nat.le_refl _)) HB9.out.size))
      go_wp2_with fail
      refine (awake6 _).mono ?_
      rintro e z2 ⟨rfl, hb⟩
      have HBZ := Lib.hid (HBE.out.trans (hb.mono HBE.out.size))
      clear hb
      go_wp2_with fail
      go_ret
      exact ⟨rfl, HBZ.out⟩

end Go.Proofs.Ytjipmkgnndldpaa
