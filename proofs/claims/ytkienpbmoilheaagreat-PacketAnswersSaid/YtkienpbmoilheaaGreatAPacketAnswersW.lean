/- The walk of PacketAnswers. By the verifier's side. -/
import Derived.Test.YtkienpbmoilheaaGreatAPkF
import Derived.Test.YtkienpbmoilheaaGreatARPk1RPk2
import Derived.Test.YtkienpbmoilheaaGreatARHpURHpO
import Derived.Test.YtkienpbmoilheaaGreatACurveAnswersW
import Derived.Test.YtkienpbmoilheaaGreatARTrF
import Derived.Test.YtkienpbmoilheaaGreatAZeroZero3CfUCfZ
namespace Go.Proofs.YtkienpbmoilheaaGreat
open Go.RowKit
set_option linter.unusedSimpArgs false
set_option linter.unusedVariables false

theorem pkR_apartG {u v : World} {a : Option Addr} {n cap b : Nat} {l : List Pk} (h : PkR u a n cap l) (ha : Apart b u v) (hb : ∀ x, a = some x → 1 ≤ n → ¬ x.block = b) : PkR v a n cap l := by
  rcases Nat.eq_zero_or_pos n with h0 | h0
  · exact ⟨h.len, h.le, h.sm, h.cm, .inl ⟨h0, fun _ _ => trivial⟩, h.bd⟩
  · exact pkR_apartZ h ha (fun x hx => hb x hx h0)
theorem curs3P {w : World} {b : Nat} {a1 a2 a3 : Option Addr} {n1 n2 n3 c1 c2 c3 : Nat} {z1 z2 z3 : List Int} {p1 p2 p3 i1 i2 i3 : Int} {t : TypeId} (h1 : CurIn w b a1 n1 c1 z1 p1 i1) (h2 : CurIn w b a2 n2 c2 z2 p2 i2) (h3 : CurIn w b a3 n3 c3 z3 p3 i3) :
    Curs (w.alloc (.cells #[.slice a1 n1 c1, .int .i64 p1, .int .i64 i1, .slice a2 n2 c2, .int .i64 p2, .int .i64 i2, .slice a3 n3 c3, .int .i64 p3, .int .i64 i3] t)) b w.heap.size 3 := fun k hk => by
  have hb := fun o => (Below.refl w.heap.size w).alloc (Nat.le_refl _) o
  have hk5 : k = 0 ∨ k = 1 ∨ k = 2 := by omega
  rcases hk5 with rfl | rfl | rfl
  · exact ⟨_, _, _, _, _, _, h1.below (hb _), cell_new rfl, cell_new rfl, cell_new rfl⟩
  · exact ⟨_, _, _, _, _, _, h2.below (hb _), cell_new rfl, cell_new rfl, cell_new rfl⟩
  · exact ⟨_, _, _, _, _, _, h3.below (hb _), cell_new rfl, cell_new rfl, cell_new rfl⟩

theorem below_box1 (w : World) (o : Obj) : Below w.heap.size w (w.alloc o) := (Below.refl _ _).alloc (Nat.le_refl _) o
/-- Two curves in one block, their rows in an elder world. -/
def YsP (vL : World) (b Bl : Nat) (u : World) : Prop :=
  ∀ k, k < 2 → ∃ (a : Option Addr) (n cap : Nat) (zs : List Int) (p inc : Int), CurIn vL b a n cap zs p inc ∧ u.cell? ⟨Bl, k * 3, none⟩ = some (.slice a n cap) ∧ u.cell? ⟨Bl, k * 3 + 1, none⟩ = some (.int .i64 p) ∧ u.cell? ⟨Bl, k * 3 + 2, none⟩ = some (.int .i64 inc)
theorem YsP.block {vL : World} {b Bl : Nat} {u v : World} (h : YsP vL b Bl u) (hb : v.heap[Bl]? = u.heap[Bl]?) : YsP vL b Bl v := fun k hk => by
  obtain ⟨a, n, cap, zs, p, inc, h1, h2, h3, h4⟩ := h k hk
  exact ⟨a, n, cap, zs, p, inc, h1, (World.cell?_of_block (w := u) (a := ⟨Bl, k * 3, none⟩) hb).trans h2, (World.cell?_of_block (w := u) (a := ⟨Bl, k * 3 + 1, none⟩) hb).trans h3, (World.cell?_of_block (w := u) (a := ⟨Bl, k * 3 + 2, none⟩) hb).trans h4⟩
theorem YsP.lt {vL : World} {b Bl : Nat} {u : World} (h : YsP vL b Bl u) : Bl < u.heap.size := by
  obtain ⟨a, n, cap, zs, p, inc, h1, h2, h3, h4⟩ := h 0 (by omega)
  exact lt_of_cell h2
/-- While two curves are gone through: the two boxes of the answers. -/
structure Y3P (vL : World) (b Bl F G : Nat) (u : World) : Prop where
  below : Below vL.heap.size vL u
  ys : YsP vL b Bl u
  bF : ∃ x0 x1 x2, Cur3 u F x0 x1 x2
  bG : ∃ x0 x1 x2, Cur3 u G x0 x1 x2
  hFG : ¬ F = G
  hFB : ¬ F = Bl
  hGB : ¬ G = Bl
  hF : vL.heap.size ≤ F
  hG : vL.heap.size ≤ G
section
variable {vL : World} {b Bl F G : Nat} {u v : World}
theorem Y3P.call (h : Y3P vL b Bl F G u) (hb : Below u.heap.size u v) : Y3P vL b Bl F G v := by
  obtain ⟨x0, x1, x2, hx⟩ := h.bF
  obtain ⟨y0, y1, y2, hy⟩ := h.bG
  exact ⟨h.below.trans (hb.mono h.below.size), h.ys.block (hb.block _ h.ys.lt), ⟨_, _, _, hx.below hb⟩, ⟨_, _, _, hy.below hb⟩, h.hFG, h.hFB, h.hGB, h.hF, h.hG⟩
theorem set3_block {u : World} {f g : Nat} (h : ¬ f = g) (y0 y1 y2 : Value) : (((u.setCell ⟨f, 0, none⟩ y0).setCell ⟨f, 1, none⟩ y1).setCell ⟨f, 2, none⟩ y2).heap[g]? = u.heap[g]? := by
  have k := fun (w : World) (i : Nat) (x : Value) => Below.heap_setCell w ⟨f, i, none⟩ x g (fun e => h (by first | exact e | exact e.symm))
  rw [k, k, k]
theorem Y3P.setF (h : Y3P vL b Bl F G u) (y0 y1 y2 : Value) : Y3P vL b Bl F G (((u.setCell ⟨F, 0, none⟩ y0).setCell ⟨F, 1, none⟩ y1).setCell ⟨F, 2, none⟩ y2) := by
  obtain ⟨x0, x1, x2, hx⟩ := h.bF
  obtain ⟨z0, z1, z2, hz⟩ := h.bG
  exact ⟨below_set3 h.below h.hF _ _ _, h.ys.block (set3_block h.hFB _ _ _), ⟨_, _, _, hx.set _ _ _⟩, ⟨_, _, _, ((hz.other (fun e => h.hFG e.symm) _ _).other (fun e => h.hFG e.symm) _ _).other (fun e => h.hFG e.symm) _ _⟩, h.hFG, h.hFB, h.hGB, h.hF, h.hG⟩
theorem Y3P.setG (h : Y3P vL b Bl F G u) (y0 y1 y2 : Value) : Y3P vL b Bl F G (((u.setCell ⟨G, 0, none⟩ y0).setCell ⟨G, 1, none⟩ y1).setCell ⟨G, 2, none⟩ y2) := by
  obtain ⟨x0, x1, x2, hx⟩ := h.bF
  obtain ⟨z0, z1, z2, hz⟩ := h.bG
  exact ⟨below_set3 h.below h.hG _ _ _, h.ys.block (set3_block h.hGB _ _ _), ⟨_, _, _, ((hx.other h.hFG _ _).other h.hFG _ _).other h.hFG _ _⟩, ⟨_, _, _, hz.set _ _ _⟩, h.hFG, h.hFB, h.hGB, h.hF, h.hG⟩
end

set_option maxRecDepth 100000 in
set_option maxHeartbeats 6400000 in
theorem packetAnswers_walk (W : World) (aR : Option Addr) (nR cR : Nat) (zR : List Int) (pR iR : Int) (aO : Option Addr) (nO cO : Nat) (zO : List Int) (pO iO : Int) (aP : Option Addr) (nP cP : Nat) (lP : List Pk) (aD : Option Addr) (nD cD : Nat) (zD : List Int) (m : Int) (a : Option Addr) (n cap : Nat)
    (hR : nR ≤ 800 → RowZ W aR nR cR zR) (hpR : In64 pR) (hiR : In64 iR) (hO : nO ≤ 800 → RowZ W aO nO cO zO) (hpO : In64 pO) (hiO : In64 iO) (hP : nP ≤ 100 → PkR W aP nP cP lP) (fP : ∀ z, aP = some z → 1 ≤ nP → z.block < W.heap.size) (hD : nD ≤ 800 → RowZ W aD nD cD zD) (hm : In64 m) (hrow : RowAt W a n cap) :
    Calls Tryz.prog 3 #[curV aR nR cR pR iR, curV aO nO cO pO iO, .slice aP nP cP, .slice aD nD cD, .int .i64 m, .slice a n cap] W fun e w' => e = .returned (.bool true) ∧ Below W.heap.size W w' := by
  have HIR := Lib.hid (And.intro hpR hiR)
  have HIO := Lib.hid (And.intro hpO hiO)
  have HM := Lib.hid hm
  have HRW := Lib.hid hrow
  have HFP := Lib.hid fP
  obtain ⟨w0, hw0⟩ : ∃ u, (W.alloc (.cells #[.slice aR nR cR, .int .i64 pR, .int .i64 iR] 24)).alloc (.cells #[.slice aO nO cO, .int .i64 pO, .int .i64 iO] 24) = u := ⟨_, rfl⟩
  have hB : Below W.heap.size W w0 := by rw [← hw0]; exact ((Below.refl _ _).alloc (Nat.le_refl _) _).alloc (by simp) _
  have hsz : w0.heap.size = W.heap.size + 2 := by rw [← hw0]; simp
  have HB0 := Lib.hid hB
  have K6 := Lib.hid (show Cur3 w0 W.heap.size (.slice aR nR cR) (.int .i64 pR) (.int .i64 iR) by rw [← hw0]; exact (Cur3.new W _ _ _ _).alloc _)
  have K7 := Lib.hid (show Cur3 w0 (W.heap.size + 1) (.slice aO nO cO) (.int .i64 pO) (.int .i64 iO) by rw [← hw0]; exact Cur3.new2 W _ _ _ _ _)
  have RR := Lib.hid (show nR ≤ 800 → RowZ w0 aR nR cR zR from fun h => (hR h).under hB)
  have RO := Lib.hid (show nO ≤ 800 → RowZ w0 aO nO cO zO from fun h => (hO h).under hB)
  have RP := Lib.hid (show nP ≤ 100 → PkR w0 aP nP cP lP from fun h => (hP h).under hB)
  have RD := Lib.hid (show nD ≤ 800 → RowZ w0 aD nD cD zD from fun h => (hD h).under hB)
  have HW0 := Lib.hid hw0
  obtain ⟨okR, hokR⟩ : ∃ c, okC zR pR iR = c := ⟨_, rfl⟩
  have HOKR := Lib.hid hokR
  clear hR hpR hiR hO hpO hiO hP fP hD hm hrow hB hw0 hokR
  obtain ⟨c0, c1, c2, f0, f1, f2⟩ := K6.out
  obtain ⟨d0, d1, d2, e0, e1, e2⟩ := K7.out
  go_enter Tryz.func3, Tryz.ntmps3
  go_upto_region 1 with fail
  try rw [HW0.out]
  go_cut [77] (fun s77 wx => ∃ bb : Bool, s77 = .bool bb ∧ Hid (Below w0.heap.size w0 wx) ∧ Hid (bb = false → nR ≤ 800 ∧ nO ≤ 800 ∧ nP ≤ 70 ∧ nD ≤ 100))
  case first =>
    as_aux_lemma =>
      by_cases hR8 : nR ≤ 800
      · go_wp2_with fail
        clear c0 c1 c2 f0 f1 f2 d0 d1 d2 e0 e1 e2
        refine (small_any aR nR cR pR iR true (decide_eq_true hR8) _).mono ?_
        rintro e u1 ⟨rfl, hb⟩
        have B1 := Lib.hid hb
        clear hb
        obtain ⟨c0, c1, c2, f0, f1, f2⟩ := K6.out.below B1.out
        obtain ⟨d0, d1, d2, e0, e1, e2⟩ := K7.out.below B1.out
        go_wp2_with fail
        clear c0 c1 c2 f0 f1 f2 d0 d1 d2 e0 e1 e2
        by_cases hO8 : nO ≤ 800
        · refine (small_any aO nO cO pO iO true (decide_eq_true hO8) _).mono ?_
          rintro e u2 ⟨rfl, hb⟩
          have B2 := Lib.hid (B1.out.trans (hb.mono B1.out.size))
          clear hb
          obtain ⟨c0, c1, c2, f0, f1, f2⟩ := K6.out.below B2.out
          obtain ⟨d0, d1, d2, e0, e1, e2⟩ := K7.out.below B2.out
          by_cases h60 : (60 : Int) < (nR : Int)
          · have dh60 : decide ((60 : Int) < (nR : Int)) = true := decide_eq_true h60
            go_wp2_with fail
            clear c0 c1 c2 f0 f1 f2 d0 d1 d2 e0 e1 e2
            refine (rvalid_any aR nR cR zR pR iR HIR.out.1 HIR.out.2 okR HOKR.out _ ((RR.out hR8).under B2.out)).mono ?_
            rintro e u3 ⟨rfl, hb⟩
            have B3 := Lib.hid (B2.out.trans (hb.mono B2.out.size))
            clear hb
            obtain ⟨c0, c1, c2, f0, f1, f2⟩ := K6.out.below B3.out
            obtain ⟨d0, d1, d2, e0, e1, e2⟩ := K7.out.below B3.out
            cases okR with
            | false =>
              by_cases hP7 : (70 : Int) < (nP : Int)
              · have dhP7 : decide ((70 : Int) < (nP : Int)) = true := decide_eq_true hP7
                go_wp2_with fail
                go_meet
                exact ⟨true, rfl, B3, Lib.hid fun h => by cases h⟩
              · have dhP7 : decide ((70 : Int) < (nP : Int)) = false := decide_eq_false hP7
                by_cases hD1 : (100 : Int) < (nD : Int)
                · have dhD1 : decide ((100 : Int) < (nD : Int)) = true := decide_eq_true hD1
                  go_wp2_with fail
                  go_meet
                  exact ⟨true, rfl, B3, Lib.hid fun h => by cases h⟩
                · have dhD1 : decide ((100 : Int) < (nD : Int)) = false := decide_eq_false hD1
                  go_wp2_with fail
                  go_meet
                  exact ⟨false, rfl, B3, Lib.hid fun _ => ⟨hR8, hO8, by omega, by omega⟩⟩
            | true =>
              by_cases h61 : (60 : Int) < (nO : Int)
              · have dh61 : decide ((60 : Int) < (nO : Int)) = true := decide_eq_true h61
                go_wp2_with fail
                go_meet
                exact ⟨true, rfl, B3, Lib.hid fun h => by cases h⟩
              · have dh61 : decide ((60 : Int) < (nO : Int)) = false := decide_eq_false h61
                by_cases hP7 : (70 : Int) < (nP : Int)
                · have dhP7 : decide ((70 : Int) < (nP : Int)) = true := decide_eq_true hP7
                  go_wp2_with fail
                  go_meet
                  exact ⟨true, rfl, B3, Lib.hid fun h => by cases h⟩
                · have dhP7 : decide ((70 : Int) < (nP : Int)) = false := decide_eq_false hP7
                  by_cases hD1 : (100 : Int) < (nD : Int)
                  · have dhD1 : decide ((100 : Int) < (nD : Int)) = true := decide_eq_true hD1
                    go_wp2_with fail
                    go_meet
                    exact ⟨true, rfl, B3, Lib.hid fun h => by cases h⟩
                  · have dhD1 : decide ((100 : Int) < (nD : Int)) = false := decide_eq_false hD1
                    go_wp2_with fail
                    go_meet
                    exact ⟨false, rfl, B3, Lib.hid fun _ => ⟨hR8, hO8, by omega, by omega⟩⟩
          · have dh60 : decide ((60 : Int) < (nR : Int)) = false := decide_eq_false h60
            by_cases hP7 : (70 : Int) < (nP : Int)
            · have dhP7 : decide ((70 : Int) < (nP : Int)) = true := decide_eq_true hP7
              go_wp2_with fail
              go_meet
              exact ⟨true, rfl, B2, Lib.hid fun h => by cases h⟩
            · have dhP7 : decide ((70 : Int) < (nP : Int)) = false := decide_eq_false hP7
              by_cases hD1 : (100 : Int) < (nD : Int)
              · have dhD1 : decide ((100 : Int) < (nD : Int)) = true := decide_eq_true hD1
                go_wp2_with fail
                go_meet
                exact ⟨true, rfl, B2, Lib.hid fun h => by cases h⟩
              · have dhD1 : decide ((100 : Int) < (nD : Int)) = false := decide_eq_false hD1
                go_wp2_with fail
                go_meet
                exact ⟨false, rfl, B2, Lib.hid fun _ => ⟨hR8, hO8, by omega, by omega⟩⟩
        · refine (small_any aO nO cO pO iO false (decide_eq_false hO8) _).mono ?_
          rintro e u2 ⟨rfl, hb⟩
          have B2 := Lib.hid (B1.out.trans (hb.mono B1.out.size))
          clear hb
          obtain ⟨c0, c1, c2, f0, f1, f2⟩ := K6.out.below B2.out
          obtain ⟨d0, d1, d2, e0, e1, e2⟩ := K7.out.below B2.out
          go_wp2_with fail
          go_meet
          exact ⟨true, rfl, B2, Lib.hid fun h => by cases h⟩
      · go_wp2_with fail
        clear c0 c1 c2 f0 f1 f2 d0 d1 d2 e0 e1 e2
        refine (small_any aR nR cR pR iR false (decide_eq_false hR8) _).mono ?_
        rintro e u1 ⟨rfl, hb⟩
        have B1 := Lib.hid hb
        clear hb
        obtain ⟨c0, c1, c2, f0, f1, f2⟩ := K6.out.below B1.out
        obtain ⟨d0, d1, d2, e0, e1, e2⟩ := K7.out.below B1.out
        go_wp2_with fail
        go_meet
        exact ⟨true, rfl, B1, Lib.hid fun h => by cases h⟩
  case rest =>
  clear c0 c1 c2 f0 f1 f2 d0 d1 d2 e0 e1 e2
  obtain ⟨bb, rfl, HC0, HSM⟩ := hcut
  obtain ⟨w1, rfl⟩ : ∃ u : World, u = wc := ⟨_, rfl⟩
  have HB1 := Lib.hid (HB0.out.trans (HC0.out.mono HB0.out.size))
  cases bb with
  | true =>
    go_wp2_with fail
    refine (awake15 _).mono ?_
    rintro e w3 ⟨rfl, hw3⟩
    have HB3 := Lib.hid (HB1.out.trans (hw3.mono HB1.out.size))
    clear hw3
    go_wp2_with fail
    go_ret
    exact ⟨rfl, HB3.out⟩
  | false =>
    obtain ⟨hR8, hO8, hP7, hD1⟩ := HSM.out rfl
    have K6 := Lib.hid (K6.out.below HC0.out)
    have K7 := Lib.hid (K7.out.below HC0.out)
    have RR := Lib.hid ((RR.out hR8).under HC0.out)
    have RO := Lib.hid ((RO.out hO8).under HC0.out)
    have RP := Lib.hid ((RP.out (by omega)).under HC0.out)
    have RD := Lib.hid ((RD.out (by omega)).under HC0.out)
    have HRW := Lib.hid (RowAt.under HRW.out HB1.out)
    clear HSM HC0 HB0
    have hlt1 : W.heap.size + 1 < w1.heap.size := K7.out.lt
    go_wp2_with fail
    refine (new_any a n cap _ HRW.out).mono ?_
    rintro e w3 ⟨rfl, hb3, hz3, ra, rn, rc, hs3⟩
    have HB3 := Lib.hid (HB1.out.trans (hb3.mono HB1.out.size))
    have HS3 := Lib.hid hs3
    have HZ0 := Lib.hid (show W.heap.size ≤ w1.heap.size by omega)
    have CR := Lib.hid (show CurIn w3 w1.heap.size aR nR cR zR pR iR from (CurIn.old RR.out HIR.out.1 HIR.out.2 (Nat.le_refl _)).below hb3)
    have CO := Lib.hid (show CurIn w3 w1.heap.size aO nO cO zO pO iO from (CurIn.old RO.out HIO.out.1 HIO.out.2 (Nat.le_refl _)).below hb3)
    have PP := Lib.hid (show PkR w3 aP nP cP lP from RP.out.under hb3)
    have DD := Lib.hid (show RowZ w3 aD nD cD zD from RD.out.under hb3)
    have hfP : ∀ z, aP = some z → 1 ≤ nP → ¬ z.block = w1.heap.size := fun z hz h1 => by have := HFP.out z hz h1; omega
    have hfD : 1 ≤ nD → ∀ z, aD = some z → ¬ z.block = w1.heap.size := fun h1 z hz => by have := row_lt RD.out h1 z hz; omega
    have FPD := Lib.hid (And.intro hfP hfD)
    have K6' := Lib.hid (K6.out.below hb3)
    have K7' := Lib.hid (K7.out.below hb3)
    have h6b : ¬ W.heap.size = w1.heap.size := by omega
    have h7b : ¬ W.heap.size + 1 = w1.heap.size := by omega
    clear hb3 hz3 hs3 RR RO K6 K7 RP RD HFP hfP hfD hlt1 HRW HB1
    generalize w1.heap.size = b at *
    go_wp2_with fail
    refine (curve_any 7 (by omega) (by omega) _ ra rn rc _ HS3.out).mono ?_
    rintro e w4 ⟨a1, n1, cap1, zs, p, inc, rfl, hs4, he4, hr4, ok4, hx4⟩
    have HS4 := Lib.hid hs4
    have HB4 := Lib.hid (HB3.out.trans (he4.below HZ0.out HB3.out.size))
    have C1 := Lib.hid (show CurIn w4 b a1 n1 cap1 zs p inc from ⟨hr4, by have := ok4.p8; exact ⟨by omega, by omega⟩, by have := ok4.inc; have := ok4.good.i0; exact ⟨by omega, by omega⟩, fun _ x hx => by have := hx4 x hx; have := HS3.out.lt; omega⟩)
    have OK1 := Lib.hid ok4
    have E4 := Lib.hid he4
    clear hs4 he4 hr4 ok4 hx4
    go_wp2_with fail
    refine (zero_any3 7 (by omega) (by omega) _ ra rn rc _ HS4.out).mono ?_
    rintro e w5 ⟨a2, n2, cap2, ys, q, jnc, rfl, hs5, he5, hr5, gd5, _, _, _, hx5⟩
    have HS5 := Lib.hid hs5
    have HB5 := Lib.hid (HB4.out.trans (he5.below HZ0.out HB4.out.size))
    have C2 := Lib.hid (show CurIn w5 b a2 n2 cap2 ys q jnc from ⟨hr5, by have := gd5.p2; exact ⟨by omega, by omega⟩, by have := gd5.i1; have := gd5.i0; exact ⟨by omega, by omega⟩, fun _ x hx => by have := hx5 x hx; have := HS4.out.lt; omega⟩)
    have E5 := Lib.hid (E4.out.trans he5)
    have E45 := Lib.hid he5
    clear hs5 he5 hr5 gd5 hx5
    go_wp2_with fail
    have bb := fun (u : World) => ((Below.refl u.heap.size u).alloc (Nat.le_refl _) (.cells #[.slice a1 n1 cap1, .int .i64 p, .int .i64 inc] 24))
    have b2 := fun (u : World) => ((Below.refl u.heap.size u).alloc (Nat.le_refl _) (.cells #[.slice a2 n2 cap2, .int .i64 q, .int .i64 jnc] 24))
    have C1' := Lib.hid (((C1.out.apart E45.out).below (bb _)).below (b2 _))
    have C2' := Lib.hid ((C2.out.below (bb _)).below (b2 _))
    have CR' := Lib.hid (((CR.out.apart E5.out).below (bb _)).below (b2 _))
    have CO' := Lib.hid (((CO.out.apart E5.out).below (bb _)).below (b2 _))
    have PP' := Lib.hid (((pkR_apartG PP.out E5.out FPD.out.1).under (bb _)).under (b2 _))
    have DD' := Lib.hid (((DD.out.apart2 E5.out FPD.out.2).under (bb _)).under (b2 _))
    have HS6 := Lib.hid ((HS5.out.under (bb _)).under (b2 _))
    have HB6 := Lib.hid ((HB5.out.alloc HB5.out.size (.cells #[.slice a1 n1 cap1, .int .i64 p, .int .i64 inc] 24)).alloc (HB5.out.alloc HB5.out.size (.cells #[.slice a1 n1 cap1, .int .i64 p, .int .i64 inc] 24)).size (.cells #[.slice a2 n2 cap2, .int .i64 q, .int .i64 jnc] 24))
    have B6 := Lib.hid (((K6'.out.apart E5.out h6b).alloc (.cells #[.slice a1 n1 cap1, .int .i64 p, .int .i64 inc] 24)).alloc (.cells #[.slice a2 n2 cap2, .int .i64 q, .int .i64 jnc] 24))
    have B7 := Lib.hid (((K7'.out.apart E5.out h7b).alloc (.cells #[.slice a1 n1 cap1, .int .i64 p, .int .i64 inc] 24)).alloc (.cells #[.slice a2 n2 cap2, .int .i64 q, .int .i64 jnc] 24))
    have B14 := Lib.hid ((Cur3.new w5 (.slice a1 n1 cap1) (.int .i64 p) (.int .i64 inc) 24).alloc (.cells #[.slice a2 n2 cap2, .int .i64 q, .int .i64 jnc] 24))
    have B15 := Lib.hid (Cur3.new2 w5 (.slice a2 n2 cap2) (.int .i64 q) (.int .i64 jnc) 24 (.cells #[.slice a1 n1 cap1, .int .i64 p, .int .i64 inc] 24))
    have h14b : ¬ w5.heap.size = b := by have := HS5.out.lt; omega
    have h15b : ¬ w5.heap.size + 1 = b := by have := HS5.out.lt; omega
    have h14w : W.heap.size + 1 < w5.heap.size := by have := E5.out.size; have := HB5.out.size; have := K7'.out.lt; omega
    clear CR CO C1 C2 K6' K7' HS3 HS4 E5 E45 E4 HB5 HB4 HB3 PP DD bb b2
    generalize (w5.alloc (.cells #[.slice a1 n1 cap1, .int .i64 p, .int .i64 inc] 24)).alloc (.cells #[.slice a2 n2 cap2, .int .i64 q, .int .i64 jnc] 24) = w6 at *
    have HK := Lib.hid (fun u (h : Held w6 b ra rn rc u) => s4_mk B6.out B7.out B14.out B15.out h6b h7b h14b h15b h)
    have HK0 := Lib.hid (HK.out _ (Held.start HS6.out).drew)
    have hn1 : 1 ≤ n1 ∧ n1 ≤ 400 := by have := ok_pos OK1.out; have := OK1.out.few; have := C1'.out.row.len; omega
    have P1 := Lib.hid (show (-2000 ≤ (p : Int) ∧ (p : Int) ≤ 2000) ∧ (-4294967296 ≤ inc ∧ inc ≤ 4294967296) from by have := OK1.out.p8; have := OK1.out.inc; have := OK1.out.good.i0; omega)
    have D1 := Lib.hid (ok_bd OK1.out)
    have hbl6 := HS6.out.lt
    go_cut [90, 91, 92] (fun s90 s91 s92 wx => ∃ B, s90 = .slice (some ⟨B, 0, none⟩) 3 3 ∧ s91 = .int .i64 3 ∧ s92 = .int .i64 0 ∧ ¬ B = b ∧ Hid (Curs wx b B 3) ∧ Hid (Held w6 b ra rn rc wx))
    case first =>
      go_region_held3 (fun u => u.cell? ⟨W.heap.size, 0, none⟩ = some (.slice aR nR cR) ∧ u.cell? ⟨W.heap.size, 1, none⟩ = some (.int .i64 pR) ∧ u.cell? ⟨W.heap.size, 2, none⟩ = some (.int .i64 iR) ∧ u.cell? ⟨W.heap.size + 1, 0, none⟩ = some (.slice aO nO cO) ∧ u.cell? ⟨W.heap.size + 1, 1, none⟩ = some (.int .i64 pO) ∧ u.cell? ⟨W.heap.size + 1, 2, none⟩ = some (.int .i64 iO) ∧
          u.cell? ⟨w5.heap.size, 0, none⟩ = some (.slice a1 n1 cap1) ∧ u.cell? ⟨w5.heap.size, 1, none⟩ = some (.int .i64 p) ∧ u.cell? ⟨w5.heap.size, 2, none⟩ = some (.int .i64 inc) ∧ u.cell? ⟨w5.heap.size + 1, 0, none⟩ = some (.slice a2 n2 cap2) ∧ u.cell? ⟨w5.heap.size + 1, 1, none⟩ = some (.int .i64 q) ∧ u.cell? ⟨w5.heap.size + 1, 2, none⟩ = some (.int .i64 jnc) ∧ Hid (Held w6 b ra rn rc u))
        (first | with_reducible exact HK0.out | with_reducible exact HK.out _ ((s4_of (by assumption)).call hs7 he7) | with_reducible exact HK.out _ ((s4_of (by assumption)).alloc _) | with_reducible exact HK.out _ ((s4_of (by assumption)).alloc _).drew | with_reducible exact HK.out _ (s4_of (by assumption)).drew)
        (first
          | (go_at_call 10; ((with_reducible refine (bent_any 4611686018427387905 (by decide) (by decide) b ra rn rc a1 n1 cap1 zs p inc hn1.1 (by omega) D1.out P1.out.1 P1.out.2 _ ((s4_of (by assumption)).at HS6.out) (C1'.out.apart (s4_of (by assumption)).ap).row).mono ?_); rintro e w7 ⟨a7, n7, cap7, z7, p7, i7, rfl, hs7, he7, hr7, hm7, hd7, hp7, hi7, hx7⟩; have HL7 := Lib.hid (s4_of (by assumption)).lt; have HK7 := Lib.hid ((s4_of (by assumption)).call hs7 he7))))
      all_goals go_wp2_with fail
      all_goals go_meet
      all_goals (have hH := HK7.out)
      all_goals exact ⟨w7.heap.size, rfl, rfl, rfl, by have := hH.lt; omega, Lib.hid (curs3P (CR'.out.apart hH.ap) (C1'.out.apart hH.ap) (bent_in HL7.out hr7 hp7 hi7 hx7)), Lib.hid (hH.alloc _)⟩
    case rest =>
    obtain ⟨B3, rfl, rfl, rfl, hBb, HC, HH⟩ := hcut
    obtain ⟨w9, rfl⟩ : ∃ u : World, u = wc := ⟨_, rfl⟩
    have hbl9 := HH.out.lt
    have HS9 := Lib.hid (HH.out.at HS6.out)
    have HB9 := Lib.hid (HB6.out.trans (HH.out.ap.below HZ0.out HB6.out.size))
    have CO9 := Lib.hid (CO'.out.apart HH.out.ap)
    have C29 := Lib.hid (C2'.out.apart HH.out.ap)
    have K79 := Lib.hid (B7.out.apart HH.out.ap h7b)
    have K15 := Lib.hid (B15.out.apart HH.out.ap h15b)
    have PP9 := Lib.hid (pkR_apartG PP'.out HH.out.ap FPD.out.1)
    have DD9 := Lib.hid (DD'.out.apart2 HH.out.ap FPD.out.2)
    clear HK HK0 HH HB6 HS6 P1 D1 hn1 OK1 CR' CO' C1' C2' PP' DD' B6 B7 B14 B15 h14b h6b hbl6
    go_wp2_with fail
    go_loopw [92] (fun s92 wx => ∃ k : Nat, s92 = .int .i64 k ∧ k ≤ 3 ∧ Hid (Held w9 b ra rn rc wx)) (fun s92 _ => 3 - (intOf s92).toNat)
    case atStart => exact ⟨0, rfl, by omega, Lib.hid (Held.start HS9.out)⟩
    case round =>
      obtain ⟨k, rfl, hk3, HL⟩ := hrel
      obtain ⟨wq, rfl⟩ : ∃ u : World, u = wr := ⟨_, rfl⟩
      by_cases hk : k < 3
      · have q0 : (0 : Int) ≤ (k : Int) := by omega
        have q1 : (k : Int) < 3 := by omega
        obtain ⟨xa, xn, xc, zx, xp, xi, CX, hc0, hc1, hc2⟩ := (HC.out.apart HL.out.ap hBb) k hk
        have HCX := Lib.hid CX
        clear CX
        go_upto_region 8 with fail
        obtain ⟨u, hu⟩ : ∃ u, wq.alloc (.cells #[.slice xa xn xc, .int .i64 xp, .int .i64 xi] 24) = u := ⟨_, rfl⟩
        have hbu : Below wq.heap.size wq u := by rw [← hu]; exact (Below.refl _ _).alloc (Nat.le_refl _) _
        have A0 := Lib.hid (show Held w9 b ra rn rc u from by rw [← hu]; exact HL.out.alloc _)
        have X0 := Lib.hid (HCX.out.below hbu)
        obtain ⟨F, hF⟩ : ∃ F, wq.heap.size = F := ⟨_, rfl⟩
        have K17 := Lib.hid (show Cur3 u F (.slice xa xn xc) (.int .i64 xp) (.int .i64 xi) by rw [← hu, ← hF]; exact Cur3.new wq _ _ _ _)
        have hFb : ¬ F = b := by have := HL.out.lt; omega
        rw [hu]
        try rw [hF]
        clear hu hbu hc0 hc1 hc2 HCX hF
        go_wp2_with fail
        refine (n_any 30 (by omega) (by omega) _ ra rn rc _ (A0.out.at HS9.out)).mono ?_
        rintro e u1 ⟨z, ⟨z0, z1⟩, rfl, hs, he⟩
        have A1 := Lib.hid (A0.out.call hs he.apart)
        have Q1 := Lib.hid he.apart
        have hwz : IntKind.i64.wrap (1 + z) = 1 + z := IntWalk.i64_in _ ⟨by omega, by omega⟩
        clear hs he
        have A2 := Lib.hid (A1.out.alloc (.cells #[.int .i64 0, .int .i64 1, .int .i64 700, .int .i64 1500, .int .i64 1501] 3))
        have hne1 : ¬ u1.heap.size = b := by have := A1.out.lt; omega
        have HPI := Lib.hid (pick_of (fun v => 0 ≤ v ∧ v ≤ 1501) (fun v hv => ⟨by omega, by omega⟩) u1.heap.size 5 5 (by omega) (by omega) b hne1 ra rn rc _ (A2.out.at HS9.out) (fun i hi => by
          have : i = 0 ∨ i = 1 ∨ i = 2 ∨ i = 3 ∨ i = 4 := by omega
          rcases this with rfl | rfl | rfl | rfl | rfl
          · exact ⟨_, cell_new13 rfl, by omega, by omega⟩
          · exact ⟨_, cell_new13 rfl, by omega, by omega⟩
          · exact ⟨_, cell_new13 rfl, by omega, by omega⟩
          · exact ⟨_, cell_new13 rfl, by omega, by omega⟩
          · exact ⟨_, cell_new13 rfl, by omega, by omega⟩))
        go_wp2_with fail
        refine HPI.out.mono ?_
        rintro e u2 ⟨y, hy, rfl, hs, he⟩
        have A3 := Lib.hid (A2.out.call hs he)
        have Q2 := Lib.hid (Q1.out.trans ((below_apart ((Below.refl _ _).alloc (Nat.le_refl _) (.cells #[.int .i64 0, .int .i64 1, .int .i64 700, .int .i64 1500, .int .i64 1501] 3))).trans he))
        have HY := Lib.hid hy
        clear hs he hy
        obtain ⟨vL, hvL⟩ : ∃ v, u2.alloc (.cells #[.int .i64 m, .int .i64 (1 + z), .int .i64 y] 3) = v := ⟨_, rfl⟩
        have hbL : Below u2.heap.size u2 vL := by rw [← hvL]; exact (Below.refl _ _).alloc (Nat.le_refl _) _
        have AL := Lib.hid (show Held w9 b ra rn rc vL from by rw [← hvL]; exact A3.out.alloc _)
        have XL := Lib.hid (((X0.out.apart Q2.out)).below hbL)
        have KL := Lib.hid ((K17.out.apart Q2.out hFb).below hbL)
        obtain ⟨BL, hBL⟩ : ∃ B, u2.heap.size = B := ⟨_, rfl⟩
        have LL := Lib.hid (show ∀ j, j < 3 → ∃ x, vL.cell? ⟨BL, j, none⟩ = some (.int .i64 x) ∧ In64 x from fun j hj => by
          rw [← hvL, ← hBL]
          have := HY.out
          have : j = 0 ∨ j = 1 ∨ j = 2 := by omega
          rcases this with rfl | rfl | rfl
          · exact ⟨_, cell_new13 rfl, HM.out⟩
          · exact ⟨_, cell_new13 rfl, by omega, by omega⟩
          · exact ⟨_, cell_new13 rfl, by omega, by omega⟩)
        have HVL := Lib.hid hvL
        have HBL := Lib.hid hBL
        clear hvL hBL hbL HPI A0 A1 A2 A3 Q1 Q2 X0 K17
        go_wp2_with fail
        try rw [HVL.out]
        try rw [HBL.out]
        have K15L := Lib.hid (K15.out.apart AL.out.ap h15b)
        have K7L := Lib.hid (K79.out.apart AL.out.ap h7b)
        have C2L := Lib.hid (C29.out.apart AL.out.ap)
        have COL := Lib.hid (CO9.out.apart AL.out.ap)
        go_loopw [105] (fun s105 wx => ∃ j : Nat, s105 = .int .i64 j ∧ j ≤ 3 ∧ Hid (Below vL.heap.size vL wx)) (fun s105 _ => 3 - (intOf s105).toNat)
        case atStart => exact ⟨0, rfl, by omega, Lib.hid (Below.refl _ _)⟩
        case round =>
          obtain ⟨j, rfl, hj3, HN⟩ := hrel
          obtain ⟨wj, rfl⟩ : ∃ u : World, u = wr := ⟨_, rfl⟩
          by_cases hj : j < 3
          · have r0 : (0 : Int) ≤ (j : Int) := by omega
            have r1 : (j : Int) < 3 := by omega
            obtain ⟨x, hlx0, hx64⟩ := LL.out j hj
            have hlx := (HN.out.cell (lt_of_cell hlx0)).trans hlx0
            obtain ⟨zs9, zp, zi, zc, hzp, hzi, hU⟩ := hop_u (z := zx) (m := x) XL.out.ip XL.out.ii hx64
            have HU := Lib.hid hU
            have HX64 := Lib.hid hx64
            have tcc : (zc != zc) = false := by simp
            obtain ⟨k0, k1, k2, k3, k4, k5⟩ := KL.out.below HN.out
            clear hlx0 hU hzp hzi hx64
            go_wp2_with fail
            clear k0 k1 k2 k3 k4 k5 hlx
            refine ((HU.out xa xn xc _ (XL.out.row.under HN.out)).1).mono ?_
            rintro e v1 ⟨ra1, rn1, rc1, rfl, hb, hr, hx⟩
            obtain ⟨v2, hv2⟩ : ∃ v, v1.alloc (.cells #[.slice ra1 rn1 rc1, .int .i64 zp, .int .i64 zi] 24) = v := ⟨_, rfl⟩
            have hz : Below v1.heap.size v1 v2 := by rw [← hv2]; exact below_box _
            have N1 := Lib.hid (HN.out.trans ((hb.trans (hz.mono hb.size)).mono HN.out.size))
            obtain ⟨F20, hF20⟩ : ∃ F, v1.heap.size = F := ⟨_, rfl⟩
            have V1 := Lib.hid (show Cur3 v2 F20 (.slice ra1 rn1 rc1) (.int .i64 zp) (.int .i64 zi) by rw [← hv2, ← hF20]; exact Cur3.new v1 _ _ _ _)
            have R1 := Lib.hid (hr.under hz)
            have hF20a : vL.heap.size ≤ F20 := by have := HN.out.size; have := hb.size; omega
            have HV2 := Lib.hid hv2
            have HF20 := Lib.hid hF20
            obtain ⟨k0, k1, k2, k3, k4, k5⟩ := KL.out.below N1.out
            clear hb hr hx hz hv2 hF20
            go_upto_region 12 with fail
            try rw [HV2.out]
            try rw [HF20.out]
            go_wp2_with fail
            clear k0 k1 k2 k3 k4 k5
            refine ((HU.out xa xn xc _ (XL.out.row.under N1.out)).2).mono ?_
            rintro e v3 ⟨ra2, rn2, rc2, rfl, hb, hr, hx⟩
            obtain ⟨v4, hv4⟩ : ∃ v, v3.alloc (.cells #[.slice ra2 rn2 rc2, .int .i64 zp, .int .i64 zi] 24) = v := ⟨_, rfl⟩
            have hz : Below v3.heap.size v3 v4 := by rw [← hv4]; exact below_box _
            have hz2 := hb.trans (hz.mono hb.size)
            have N2 := Lib.hid (N1.out.trans (hz2.mono N1.out.size))
            obtain ⟨F22, hF22⟩ : ∃ F, v3.heap.size = F := ⟨_, rfl⟩
            have V2 := Lib.hid (show Cur3 v4 F22 (.slice ra2 rn2 rc2) (.int .i64 zp) (.int .i64 zi) by rw [← hv4, ← hF22]; exact Cur3.new v3 _ _ _ _)
            have R2 := Lib.hid (hr.under hz)
            have hF22a : F20 < F22 := by have := V1.out.lt; have := hb.size; omega
            have hF22b : F22 < v4.heap.size := V2.out.lt
            have V1 := Lib.hid (V1.out.below hz2)
            have R1 := Lib.hid (R1.out.under hz2)
            have HV4 := Lib.hid hv4
            have HF22 := Lib.hid hF22
            clear hb hr hx hz hz2 hv4 hF22 HV2 HF20
            go_upto_region 13 with fail
            try rw [HV4.out]
            try rw [HF22.out]
            obtain ⟨c0, c1, c2, f0, f1, f2⟩ := V1.out
            obtain ⟨d0, d1, d2, e0, e1, e2⟩ := V2.out
            go_wp2_with fail
            clear c0 c1 c2 f0 f1 f2 d0 d1 d2 e0 e1 e2
            refine (rsame_any ra1 rn1 rc1 zs9 zp zi ra2 rn2 rc2 zs9 zp zi true (sameB_self _ _ _) _ R1.out R2.out).mono ?_
            rintro e v5 ⟨rfl, hb⟩
            have N3 := Lib.hid (N2.out.trans (hb.mono N2.out.size))
            have V1 := Lib.hid (V1.out.below hb)
            have V2 := Lib.hid (V2.out.below hb)
            have hF22c : F22 < v5.heap.size := V2.out.lt
            obtain ⟨c0, c1, c2, f0, f1, f2⟩ := K15L.out.below N3.out
            obtain ⟨d0, d1, d2, e0, e1, e2⟩ := K7L.out.below N3.out
            clear hb R1 R2 HU hF22b HV4 HF22 tcc
            obtain ⟨w6', hw6'⟩ : ∃ v, v5.alloc (.cells #[.slice a2 n2 cap2, .int .i64 q, .int .i64 jnc, .slice aO nO cO, .int .i64 pO, .int .i64 iO] 24) = v := ⟨_, rfl⟩
            have hb6 : Below v5.heap.size v5 w6' := by rw [← hw6']; exact below_box _
            have Y0 := Lib.hid (show Y3P vL b v5.heap.size F20 F22 w6' from
              ⟨N3.out.trans (hb6.mono N3.out.size), fun k hk => by
                rw [← hw6']
                have : k = 0 ∨ k = 1 := by omega
                rcases this with rfl | rfl
                · exact ⟨_, _, _, _, _, _, C2L.out, cell_new13 rfl, cell_new13 rfl, cell_new13 rfl⟩
                · exact ⟨_, _, _, _, _, _, COL.out, cell_new13 rfl, cell_new13 rfl, cell_new13 rfl⟩, ⟨_, _, _, V1.out.below hb6⟩, ⟨_, _, _, V2.out.below hb6⟩, by omega, by omega, by omega, hF20a, by omega⟩)
            obtain ⟨Bl, hBl⟩ : ∃ B, v5.heap.size = B := ⟨_, rfl⟩
            rw [hBl] at Y0
            have HW6 := Lib.hid hw6'
            have HBl := Lib.hid hBl
            clear hw6' hBl hb6 V1 V2 N1 N2
            go_wp2_with fail
            clear c0 c1 c2 f0 f1 f2 d0 d1 d2 e0 e1 e2
            try rw [HW6.out]
            try rw [HBl.out]
            as_aux_lemma =>
              go_loopw [134] (fun s134 wx => ∃ t : Nat, s134 = .int .i64 t ∧ t ≤ 2 ∧ Hid (Y3P vL b Bl F20 F22 wx)) (fun s134 _ => 2 - (intOf s134).toNat)
              case atStart => exact ⟨0, rfl, by omega, Y0⟩
              case round =>
                obtain ⟨t, rfl, ht2, HY3⟩ := hrel
                obtain ⟨wt, rfl⟩ : ∃ u : World, u = wr := ⟨_, rfl⟩
                by_cases ht : t < 2
                · have t0 : (0 : Int) ≤ (t : Int) := by omega
                  have t1 : (t : Int) < 2 := by omega
                  obtain ⟨ya, yn, yc, zy, yp, yi, CY, hc0, hc1, hc2⟩ := HY3.out.ys t ht
                  obtain ⟨zs8, op, oi, oc, hop, hoi, hO⟩ := out_u (z1 := zy) CY.ip CY.ii (z2 := zx) (m := x) XL.out.ip XL.out.ii HX64.out
                  have HO := Lib.hid hO
                  have HCY := Lib.hid CY
                  have tcc : (oc != oc) = false := by simp
                  obtain ⟨u8, hu8⟩ : ∃ u, wt.alloc (.cells #[.slice ya yn yc, .int .i64 yp, .int .i64 yi] 24) = u := ⟨_, rfl⟩
                  have hb8 : Below wt.heap.size wt u8 := by rw [← hu8]; exact below_box _
                  have Y8 := Lib.hid (HY3.out.call hb8)
                  obtain ⟨F25, hF25⟩ : ∃ F, wt.heap.size = F := ⟨_, rfl⟩
                  have K25 := Lib.hid (show Cur3 u8 F25 (.slice ya yn yc) (.int .i64 yp) (.int .i64 yi) by rw [← hu8, ← hF25]; exact Cur3.new wt _ _ _ _)
                  have h2520 : ¬ F25 = F20 := by obtain ⟨_, _, _, hh⟩ := HY3.out.bF; have := hh.lt; omega
                  have h2522 : ¬ F25 = F22 := by obtain ⟨_, _, _, hh⟩ := HY3.out.bG; have := hh.lt; omega
                  have h20 : F20 < u8.heap.size := by obtain ⟨_, _, _, hh⟩ := Y8.out.bF; exact hh.lt
                  have h22 : F22 < u8.heap.size := by obtain ⟨_, _, _, hh⟩ := Y8.out.bG; exact hh.lt
                  have HU8 := Lib.hid hu8
                  have HF25 := Lib.hid hF25
                  clear CY hO hop hoi hu8 hb8 hF25
                  go_upto_region 18 with fail
                  try rw [HU8.out]
                  try rw [HF25.out]
                  clear hc0 hc1 hc2
                  obtain ⟨k0, k1, k2, k3, k4, k5⟩ := KL.out.below Y8.out.below
                  obtain ⟨l0, l1, l2, l3, l4, l5⟩ := K25.out
                  go_wp2_with fail
                  clear k0 k1 k2 k3 k4 k5 l0 l1 l2 l3 l4 l5
                  refine ((HO.out ya yn yc xa xn xc _ (HCY.out.row.under Y8.out.below) (XL.out.row.under Y8.out.below)).1).mono ?_
                  rintro e u9 ⟨ea1, en1, ec1, rfl, hb, hr, hx⟩
                  have Y9 := Lib.hid (Y8.out.call hb)
                  have K9 := Lib.hid (K25.out.below hb)
                  obtain ⟨x0, x1, x2, hbF⟩ := Y9.out.bF
                  have hne : ∀ y : Addr, ea1 = some y → 1 ≤ en1 → y.block ≠ F20 := fun y h _ => by have := hx y h; omega
                  have hne2 : ∀ y : Addr, ea1 = some y → 1 ≤ en1 → y.block ≠ F22 := fun y h _ => by have := hx y h; omega
                  obtain ⟨u10, hu10⟩ : ∃ u, ((u9.setCell ⟨F20, 0, none⟩ (.slice ea1 en1 ec1)).setCell ⟨F20, 1, none⟩ (.int .i64 op)).setCell ⟨F20, 2, none⟩ (.int .i64 oi) = u := ⟨_, rfl⟩
                  have Y10 := Lib.hid (show Y3P vL b Bl F20 F22 u10 by rw [← hu10]; exact Y9.out.setF _ _ _)
                  have V10 := Lib.hid (show Cur3 u10 F20 (.slice ea1 en1 ec1) (.int .i64 op) (.int .i64 oi) by rw [← hu10]; exact hbF.set _ _ _)
                  have R10 := Lib.hid (show RowZ u10 ea1 en1 ec1 zs8 by rw [← hu10]; exact ((hr.store hne _ _).store hne _ _).store hne _ _)
                  have K10 := Lib.hid (show Cur3 u10 F25 (.slice ya yn yc) (.int .i64 yp) (.int .i64 yi) by rw [← hu10]; exact ((K9.out.other h2520 _ _).other h2520 _ _).other h2520 _ _)
                  have HNE2 := Lib.hid hne2
                  have h22b : F22 < u10.heap.size := by obtain ⟨_, _, _, hh⟩ := Y10.out.bG; exact hh.lt
                  obtain ⟨c0, c1, c2, f0, f1, f2⟩ := hbF
                  have HU10 := Lib.hid hu10
                  clear hb hr hx hne hne2 hu10 K9 K25 Y9
                  go_upto_region 19 with fail
                  try rw [HU10.out]
                  clear c0 c1 c2 f0 f1 f2
                  obtain ⟨k0, k1, k2, k3, k4, k5⟩ := KL.out.below Y10.out.below
                  obtain ⟨l0, l1, l2, l3, l4, l5⟩ := K10.out
                  go_wp2_with fail
                  clear k0 k1 k2 k3 k4 k5 l0 l1 l2 l3 l4 l5
                  refine ((HO.out ya yn yc xa xn xc _ (HCY.out.row.under Y10.out.below) (XL.out.row.under Y10.out.below)).2).mono ?_
                  rintro e u11 ⟨ea2, en2, ec2, rfl, hb, hr, hx⟩
                  have Y11 := Lib.hid (Y10.out.call hb)
                  have V11 := Lib.hid (V10.out.below hb)
                  have R11 := Lib.hid (R10.out.under hb)
                  obtain ⟨x0', x1', x2', hbG⟩ := Y11.out.bG
                  have hne : ∀ y : Addr, ea2 = some y → 1 ≤ en2 → y.block ≠ F22 := fun y h _ => by have := hx y h; omega
                  have hFG := Y11.out.hFG
                  obtain ⟨u12, hu12⟩ : ∃ u, ((u11.setCell ⟨F22, 0, none⟩ (.slice ea2 en2 ec2)).setCell ⟨F22, 1, none⟩ (.int .i64 op)).setCell ⟨F22, 2, none⟩ (.int .i64 oi) = u := ⟨_, rfl⟩
                  have Y12 := Lib.hid (show Y3P vL b Bl F20 F22 u12 by rw [← hu12]; exact Y11.out.setG _ _ _)
                  have V12 := Lib.hid (show Cur3 u12 F20 (.slice ea1 en1 ec1) (.int .i64 op) (.int .i64 oi) by rw [← hu12]; exact ((V11.out.other hFG _ _).other hFG _ _).other hFG _ _)
                  have G12 := Lib.hid (show Cur3 u12 F22 (.slice ea2 en2 ec2) (.int .i64 op) (.int .i64 oi) by rw [← hu12]; exact hbG.set _ _ _)
                  have R12 := Lib.hid (show RowZ u12 ea1 en1 ec1 zs8 by rw [← hu12]; exact ((R11.out.store HNE2.out _ _).store HNE2.out _ _).store HNE2.out _ _)
                  have S12' := Lib.hid (show RowZ u12 ea2 en2 ec2 zs8 by rw [← hu12]; exact ((hr.store hne _ _).store hne _ _).store hne _ _)
                  obtain ⟨c0, c1, c2, f0, f1, f2⟩ := hbG
                  have HU12 := Lib.hid hu12
                  clear hb hr hx hne hu12 V11 R11 Y11 V10 R10 K10 Y10
                  go_upto_region 20 with fail
                  try rw [HU12.out]
                  clear c0 c1 c2 f0 f1 f2
                  obtain ⟨c0, c1, c2, f0, f1, f2⟩ := V12.out
                  obtain ⟨d0, d1, d2, e0, e1, e2⟩ := G12.out
                  go_wp2_with fail
                  clear c0 c1 c2 f0 f1 f2 d0 d1 d2 e0 e1 e2
                  refine (rsame_any ea1 en1 ec1 zs8 op oi ea2 en2 ec2 zs8 op oi true (sameB_self _ _ _) _ R12.out S12'.out).mono ?_
                  rintro e u13 ⟨rfl, hb⟩
                  have Y13 := Lib.hid (Y12.out.call hb)
                  clear hb
                  go_wp2_with fail
                  go_roundw
                  case rel => exact ⟨t + 1, by go_num, by omega, Y13⟩
                  case measure => simp [intOf]; omega
                · obtain rfl : t = 2 := by omega
                  have t1 : ¬ ((2 : Nat) : Int) < 2 := by omega
                  have HNX := Lib.hid HY3.out.below
                  go_wp2_with fail
                  go_roundw
                  case rel => exact ⟨j + 1, by go_num, by omega, HNX⟩
                  case measure => simp [intOf]; omega
          · obtain rfl : j = 3 := by omega
            have r1 : ¬ ((3 : Nat) : Int) < 3 := by omega
            have HLN := Lib.hid (show Held w9 b ra rn rc wj from by
              refine ⟨?_, AL.out.ap.trans (below_apart HN.out)⟩
              obtain ⟨kk, hkk, hbk⟩ := AL.out.src
              exact ⟨kk, hkk, (HN.out.block b AL.out.lt).trans hbk⟩)
            go_wp2_with fail
            go_roundw
            case rel => exact ⟨k + 1, by go_num, by omega, HLN⟩
            case measure => simp [intOf]; omega
      · obtain rfl : k = 3 := by omega
        have q1 : ¬ ((3 : Nat) : Int) < 3 := by omega
        as_aux_lemma =>
          have HL := Lib.hid HL.out
          go_wp2_with fail
          refine (traffic14 12 (by omega) 3 20 (by decide) (by decide) _ ra rn rc _ (HL.out.at HS9.out)).mono ?_
          rintro e x1 ⟨lq, aq, nq, cq, rfl, hdr, hs, he, hr, hx⟩
          have A1 := Lib.hid (HL.out.call hs he)
          have HDR := Lib.hid hdr
          have Q1 := Lib.hid hr
          have hqf : ∀ z, aq = some z → ¬ z.block = b := fun z hz => by have := hx z hz; have := HL.out.lt; omega
          have HQF := Lib.hid hqf
          have PP1 := Lib.hid (pkR_apartG PP9.out (HL.out.ap.trans he) FPD.out.1)
          have DD1 := Lib.hid (DD9.out.apart2 (HL.out.ap.trans he) FPD.out.2)
          have hnq : nq ≤ 12 := by rw [← hr.len]; exact hdr.len
          clear hdr hs he hr hx hqf
          go_wp2_with fail
          refine (broken13 _ ra rn rc aq nq cq lq (by omega) _ (A1.out.at HS9.out) Q1.out).mono ?_
          rintro e x2 ⟨lb, ab, nb, cb, rfl, _, hs, he, hr, hx⟩
          have A2 := Lib.hid (A1.out.call hs he)
          have Q2 := Lib.hid (pkR_apartZ Q1.out he HQF.out)
          have PP2 := Lib.hid (pkR_apartG PP1.out he FPD.out.1)
          have DD2 := Lib.hid (DD1.out.apart2 he FPD.out.2)
          have hbf : ∀ z, ab = some z → ¬ z.block = b := fun z hz => by have := hx z hz; have := A1.out.lt; omega
          have QB := Lib.hid (And.intro hr hbf)
          clear hs he hr hx hbf PP1 DD1 Q1
          obtain ⟨x3, hx3⟩ : ∃ v, x2.alloc (.cells #[.slice aP nP cP, .slice aq nq cq, .slice ab nb cb] 25) = v := ⟨_, rfl⟩
          have hb3 : Below x2.heap.size x2 x3 := by rw [← hx3]; exact below_box1 _ _
          have A3 := Lib.hid (show Held w9 b ra rn rc x3 from by rw [← hx3]; exact A2.out.alloc _)
          have HS10 := Lib.hid (A3.out.at HS9.out)
          have Q3 := Lib.hid (Q2.out.under hb3)
          have DD3 := Lib.hid (DD2.out.under hb3)
          have HB10 := Lib.hid (HB9.out.trans (A3.out.ap.below HZ0.out HB9.out.size))
          have hB6 : ¬ x2.heap.size = b := by have := A2.out.lt; omega
          obtain ⟨B6, hB6e⟩ : ∃ B, x2.heap.size = B := ⟨_, rfl⟩
          have T3 := Lib.hid (show ∀ j, j < 3 → ∃ ta tn tc tl, x3.cell? ⟨B6, j, none⟩ = some (.slice ta tn tc) ∧ PkR x3 ta tn tc tl ∧ ∀ z, ta = some z → 1 ≤ tn → ¬ z.block = b from fun j hj => by
            rw [← hx3, ← hB6e]
            have : j = 0 ∨ j = 1 ∨ j = 2 := by omega
            rcases this with rfl | rfl | rfl
            · exact ⟨_, _, _, lP, cell_new rfl, PP2.out.under (below_box1 _ _), FPD.out.1⟩
            · exact ⟨_, _, _, lq, cell_new rfl, Q2.out.under (below_box1 _ _), fun z hz _ => HQF.out z hz⟩
            · exact ⟨_, _, _, lb, cell_new rfl, QB.out.1.under (below_box1 _ _), fun z hz _ => QB.out.2 z hz⟩)
          rw [hB6e] at hB6
          have HX3 := Lib.hid hx3
          have HB6 := Lib.hid hB6e
          have HT := Lib.hid (show ∀ i, i < nq → 0 ≤ (lq.getD i default).t ∧ (lq.getD i default).t ≤ 2000 from fun i hi => by
            have := HDR.out.ok (lq.getD i default) (by rw [List.getD_eq_getElem?_getD, List.getElem?_eq_getElem (by rw [Q3.out.len]; exact hi)]; exact List.getElem_mem _)
            omega)
          clear hx3 hb3 hB6e PP2 DD2 Q2 QB A1 A2 A3 HL CO9 C29 K79 K15 PP9 DD9 HC HB9 HS9 HDR
          go_wp2_with fail
          try rw [HX3.out]
          try rw [HB6.out]
          go_loopw [173] (fun s173 wx => ∃ k : Nat, s173 = .int .i64 k ∧ k ≤ 3 ∧ Hid (Held x3 b ra rn rc wx)) (fun s173 _ => 3 - (intOf s173).toNat)
          case atStart => exact ⟨0, rfl, by omega, Lib.hid (Held.start HS10.out)⟩
          case round =>
            obtain ⟨k, rfl, hk3, HL⟩ := hrel
            obtain ⟨wq, rfl⟩ : ∃ u : World, u = wr := ⟨_, rfl⟩
            by_cases hk : k < 3
            · have q0 : (0 : Int) ≤ (k : Int) := by omega
              have q1 : (k : Int) < 3 := by omega
              obtain ⟨ta, tn, tc, tl, hcell0, hpk, htf⟩ := T3.out k hk
              have hcell := (World.cell?_of_block (w := x3) (a := ⟨B6, k, none⟩) (HL.out.ap.block _ (lt_of_cell hcell0) hB6)).trans hcell0
              have TP := Lib.hid (And.intro hpk htf)
              clear hcell0 hpk htf
              go_wp2_with fail
              clear hcell
              refine (finish15 b ra rn rc aq nq cq lq _ (HL.out.at HS10.out) HL.out.lt (pkR_apartZ Q3.out HL.out.ap HQF.out) HQF.out (by omega) HT.out).mono ?_
              rintro e y1 ⟨fa, fn, fc, fD, rfl, hs, he, hr, hfn, hx⟩
              have A1 := Lib.hid (HL.out.call hs he)
              have hff : 1 ≤ fn → ∀ z, fa = some z → ¬ z.block = b := fun _ z hz => by have := hx z hz; have := HL.out.lt; omega
              obtain ⟨y2, hy2⟩ : ∃ v, y1.alloc (.cells #[.slice aD nD cD, .slice fa fn fc] 22) = v := ⟨_, rfl⟩
              have hb2 : Below y1.heap.size y1 y2 := by rw [← hy2]; exact below_box1 _ _
              have A2 := Lib.hid (show Held x3 b ra rn rc y2 from by rw [← hy2]; exact A1.out.alloc _)
              have TP2 := Lib.hid (pkR_apartG TP.out.1 A2.out.ap TP.out.2)
              obtain ⟨B7, hB7e⟩ : ∃ B, y1.heap.size = B := ⟨_, rfl⟩
              have L2 := Lib.hid (show ∀ j, j < 2 → ∃ da dn dc dD, y2.cell? ⟨B7, j, none⟩ = some (.slice da dn dc) ∧ RowZ y2 da dn dc dD from fun j hj => by
                rw [← hB7e]
                have : j = 0 ∨ j = 1 := by omega
                rcases this with rfl | rfl
                · exact ⟨_, _, _, zD, by rw [← hy2]; exact cell_new rfl, DD3.out.apart2 A2.out.ap FPD.out.2⟩
                · exact ⟨_, _, _, fD, by rw [← hy2]; exact cell_new rfl, hr.under hb2⟩)
              have HY2 := Lib.hid hy2
              have HB7 := Lib.hid hB7e
              clear hs he hr hx hff hy2 hb2 hB7e A1
              go_wp2_with fail
              try rw [HY2.out]
              try rw [HB7.out]
              as_aux_lemma =>
                go_loopw [183] (fun s183 wx => ∃ j : Nat, s183 = .int .i64 j ∧ j ≤ 2 ∧ Hid (Below y2.heap.size y2 wx)) (fun s183 _ => 2 - (intOf s183).toNat)
                case atStart => exact ⟨0, rfl, by omega, Lib.hid (Below.refl _ _)⟩
                case round =>
                  obtain ⟨j, rfl, hj2, HN⟩ := hrel
                  obtain ⟨wj, rfl⟩ : ∃ u : World, u = wr := ⟨_, rfl⟩
                  by_cases hj : j < 2
                  · have r0 : (0 : Int) ≤ (j : Int) := by omega
                    have r1 : (j : Int) < 2 := by omega
                    obtain ⟨da, dn, dc, dD, hl0, hD⟩ := L2.out j hj
                    have hl := (HN.out.cell (lt_of_cell hl0)).trans hl0
                    have HDD := Lib.hid hD
                    obtain ⟨c, hc⟩ : ∃ c, dcode tl dD = c := ⟨_, rfl⟩
                    have tcc : (c != c) = false := by simp
                    have F1 := Lib.hid (show ∀ w, PkR w ta tn tc tl → RowZ w da dn dc dD → Calls Tryz.prog 21 #[.slice ta tn tc, .slice da dn dc] w (GivesFwd (fwdP tl dD) (fwdX tl dD) c w) from fun w h1 h2 => by have := forward15 ta tn tc tl da dn dc dD w h1 h2; rwa [hc] at this)
                    have F2 := Lib.hid (show ∀ w, PkR w ta tn tc tl → RowZ w da dn dc dD → Calls Tryz.prog 22 #[.slice ta tn tc, .slice da dn dc] w (GivesFwd (fwdP tl dD) (fwdX tl dD) c w) from fun w h1 h2 => by have := rforward15 ta tn tc tl da dn dc dD w h1 h2; rwa [hc] at this)
                    have D1 := Lib.hid (show ∀ w, PkR w ta tn tc tl → RowZ w da dn dc dD → Calls Tryz.prog 23 #[.slice ta tn tc, .slice da dn dc] w (GivesIE (delX tl dD) c w) from fun w h1 h2 => by have := delays15 ta tn tc tl da dn dc dD w h1 h2; rwa [hc] at this)
                    have D2 := Lib.hid (show ∀ w, PkR w ta tn tc tl → RowZ w da dn dc dD → Calls Tryz.prog 24 #[.slice ta tn tc, .slice da dn dc] w (GivesIE (delX tl dD) c w) from fun w h1 h2 => by have := rdelays15 ta tn tc tl da dn dc dD w h1 h2; rwa [hc] at this)
                    clear hl0 hD hc
                    go_wp2_with fail
                    clear hl
                    refine (F1.out _ (TP2.out.under HN.out) (HDD.out.under HN.out)).mono ?_
                    rintro e v1 ⟨fa1, fn1, fc1, ga1, gn1, gc1, rfl, hb, hp, hz, _, _⟩
                    have N1 := Lib.hid (HN.out.trans (hb.mono HN.out.size))
                    have R1 := Lib.hid (And.intro hp hz)
                    clear hb hp hz
                    go_wp2_with fail
                    refine (F2.out _ (TP2.out.under N1.out) (HDD.out.under N1.out)).mono ?_
                    rintro e v2 ⟨fa2, fn2, fc2, ga2, gn2, gc2, rfl, hb, hp, hz, _, _⟩
                    have N2 := Lib.hid (N1.out.trans (hb.mono N1.out.size))
                    have R1 := Lib.hid (And.intro (R1.out.1.under hb) (R1.out.2.under hb))
                    have R2 := Lib.hid (And.intro hp hz)
                    clear hb hp hz
                    go_wp2_with fail
                    refine (D1.out _ (TP2.out.under N2.out) (HDD.out.under N2.out)).mono ?_
                    rintro e v3 ⟨ha1, hn1, hc1, rfl, hb, hz, _⟩
                    have N3 := Lib.hid (N2.out.trans (hb.mono N2.out.size))
                    have R1 := Lib.hid (And.intro (R1.out.1.under hb) (R1.out.2.under hb))
                    have R2 := Lib.hid (And.intro (R2.out.1.under hb) (R2.out.2.under hb))
                    have R3 := Lib.hid hz
                    clear hb hz
                    go_wp2_with fail
                    refine (D2.out _ (TP2.out.under N3.out) (HDD.out.under N3.out)).mono ?_
                    rintro e v4 ⟨ha2, hn2, hc2, rfl, hb, hz, _⟩
                    have N4 := Lib.hid (N3.out.trans (hb.mono N3.out.size))
                    have R1 := Lib.hid (And.intro (R1.out.1.under hb) (R1.out.2.under hb))
                    have R2 := Lib.hid (And.intro (R2.out.1.under hb) (R2.out.2.under hb))
                    have R3 := Lib.hid (R3.out.under hb)
                    have R4 := Lib.hid hz
                    clear hb hz
                    go_wp2_with fail
                    refine (rsame13_any fa1 fn1 fc1 (fwdP tl dD) fa2 fn2 fc2 (fwdP tl dD) true (pkEq_self _) _ R1.out.1 R2.out.1).mono ?_
                    rintro e v5 ⟨rfl, md5, rfl⟩
                    have b5 := (Below.refl v4.heap.size v4).drewN md5
                    have N5 := Lib.hid (N4.out.trans (b5.mono N4.out.size))
                    have R1 := Lib.hid (R1.out.2.under b5)
                    have R2 := Lib.hid (R2.out.2.under b5)
                    have R3 := Lib.hid (R3.out.under b5)
                    have R4 := Lib.hid (R4.out.under b5)
                    clear b5
                    generalize v4.drewN md5 = v5 at N5 R1 R2 R3 R4 ⊢
                    go_wp2_with fail
                    refine (rints5_any ga1 gn1 gc1 (fwdX tl dD) ga2 gn2 gc2 (fwdX tl dD) true (by simp) _ R1.out R2.out).mono ?_
                    rintro e v6 ⟨rfl, md6, rfl⟩
                    have b6 := (Below.refl v5.heap.size v5).drewN md6
                    have N6 := Lib.hid (N5.out.trans (b6.mono N5.out.size))
                    have R3 := Lib.hid (R3.out.under b6)
                    have R4 := Lib.hid (R4.out.under b6)
                    clear b6
                    generalize v5.drewN md6 = v6 at N6 R3 R4 ⊢
                    go_wp2_with fail
                    refine (rints5_any ha1 hn1 hc1 (delX tl dD) ha2 hn2 hc2 (delX tl dD) true (by simp) _ R3.out R4.out).mono ?_
                    rintro e v7 ⟨rfl, md7, rfl⟩
                    have N7 := Lib.hid (N6.out.trans (((Below.refl v6.heap.size v6).drewN md7).mono N6.out.size))
                    generalize v6.drewN md7 = v7 at N7 ⊢
                    go_wp2_with fail
                    go_roundw
                    case rel => exact ⟨j + 1, by go_num, by omega, N7⟩
                    case measure => simp [intOf]; omega
                  · obtain rfl : j = 2 := by omega
                    have r1 : ¬ ((2 : Nat) : Int) < 2 := by omega
                    have HLN := Lib.hid (show Held x3 b ra rn rc wj from by
                      refine ⟨?_, A2.out.ap.trans (below_apart HN.out)⟩
                      obtain ⟨kk, hkk, hbk⟩ := A2.out.src
                      exact ⟨kk, hkk, (HN.out.block b A2.out.lt).trans hbk⟩)
                    go_wp2_with fail
                    refine (n_any 200 (by omega) (by omega) _ ra rn rc _ (HLN.out.at HS10.out)).mono ?_
                    rintro e z1 ⟨z, ⟨z0, z1'⟩, rfl, hs, he⟩
                    have A5 := Lib.hid (HLN.out.call hs he.apart)
                    clear hs he
                    obtain ⟨z2, hz2⟩ : ∃ v, z1.alloc (.cells #[.int .i64 m, .int .i64 z, .int .i64 (-1)] 3) = v := ⟨_, rfl⟩
                    have A6 := Lib.hid (show Held x3 b ra rn rc z2 from by rw [← hz2]; exact A5.out.alloc _)
                    have HS6 := Lib.hid (A6.out.at HS10.out)
                    have TP6 := Lib.hid (And.intro (pkR_apartG TP.out.1 A6.out.ap TP.out.2) TP.out.2)
                    have hB8 : ¬ z1.heap.size = b := by have := A5.out.lt; omega
                    obtain ⟨B8, hB8e⟩ : ∃ B, z1.heap.size = B := ⟨_, rfl⟩
                    have L6 := Lib.hid (show ∀ i, i < 3 → ∃ x, z2.cell? ⟨B8, i, none⟩ = some (.int .i64 x) ∧ In64 x from fun i hi => by
                      rw [← hz2, ← hB8e]
                      have : i = 0 ∨ i = 1 ∨ i = 2 := by omega
                      rcases this with rfl | rfl | rfl
                      · exact ⟨_, cell_new13 rfl, HM.out⟩
                      · exact ⟨_, cell_new13 rfl, by omega, by omega⟩
                      · exact ⟨_, cell_new13 rfl, by omega, by omega⟩)
                    rw [hB8e] at hB8
                    have HZ2 := Lib.hid hz2
                    have HB8 := Lib.hid hB8e
                    clear hz2 hB8e
                    go_wp2_with fail
                    try rw [HZ2.out]
                    try rw [HB8.out]
                    go_loopw [245] (fun s245 wx => ∃ i : Nat, s245 = .int .i64 i ∧ i ≤ 3 ∧ Hid (Held z2 b ra rn rc wx)) (fun s245 _ => 3 - (intOf s245).toNat)
                    case atStart => exact ⟨0, rfl, by omega, Lib.hid (Held.start HS6.out)⟩
                    case round =>
                      obtain ⟨i, rfl, hi3, HI⟩ := hrel
                      obtain ⟨wi, rfl⟩ : ∃ u : World, u = wr := ⟨_, rfl⟩
                      by_cases hi : i < 3
                      · have t0 : (0 : Int) ≤ (i : Int) := by omega
                        have t1 : (i : Int) < 3 := by omega
                        obtain ⟨x, hl0, hx64⟩ := L6.out i hi
                        have hl := (World.cell?_of_block (w := z2) (a := ⟨B8, i, none⟩) (HI.out.ap.block _ (lt_of_cell hl0) hB8)).trans hl0
                        have HX := Lib.hid hx64
                        clear hl0 hx64
                        go_wp2_with fail
                        clear hl
                        refine (n_any 5 (by omega) (by omega) _ ra rn rc _ (HI.out.at HS6.out)).mono ?_
                        rintro e z3 ⟨y, ⟨y0, y1'⟩, rfl, hs, he⟩
                        have A7 := Lib.hid (HI.out.call hs he.apart)
                        have hwy : IntKind.i64.wrap (y - 2) = y - 2 := IntWalk.i64_in _ ⟨by omega, by omega⟩
                        obtain ⟨v, hv⟩ : ∃ v, wholeA tl (y - 2) x = v := ⟨_, rfl⟩
                        have HV := Lib.hid hv
                        have tcc : (v != v) = false := by simp
                        have P7 := Lib.hid (pkR_apartG TP6.out.1 A7.out.ap TP6.out.2)
                        clear hs he hv
                        go_wp2_with fail
                        refine (whole15 ta tn tc tl (y - 2) x v HX.out HV.out _ P7.out).mono ?_
                        rintro e z4 ⟨rfl, hb⟩
                        have A8 := Lib.hid (show Held z2 b ra rn rc z4 from by
                          refine ⟨?_, A7.out.ap.trans (below_apart hb)⟩
                          obtain ⟨kk, hkk, hbk⟩ := A7.out.src
                          exact ⟨kk, hkk, (hb.block b A7.out.lt).trans hbk⟩)
                        have P8 := Lib.hid (P7.out.under hb)
                        clear hb
                        go_wp2_with fail
                        refine (rwhole15 ta tn tc tl (y - 2) x v HX.out ⟨by omega, by omega⟩ HV.out _ P8.out).mono ?_
                        rintro e z5 ⟨rfl, hb⟩
                        have A9 := Lib.hid (show Held z2 b ra rn rc z5 from by
                          refine ⟨?_, A8.out.ap.trans (below_apart hb)⟩
                          obtain ⟨kk, hkk, hbk⟩ := A8.out.src
                          exact ⟨kk, hkk, (hb.block b A8.out.lt).trans hbk⟩)
                        clear hb
                        go_wp2_with fail
                        go_roundw
                        case rel => exact ⟨i + 1, by go_num, by omega, A9⟩
                        case measure => simp [intOf]; omega
                      · obtain rfl : i = 3 := by omega
                        have t1 : ¬ ((3 : Nat) : Int) < 3 := by omega
                        have HEND := Lib.hid (show Held x3 b ra rn rc wi from ⟨HI.out.src, A6.out.ap.trans HI.out.ap⟩)
                        go_wp2_with fail
                        go_roundw
                        case rel => exact ⟨k + 1, by go_num, by omega, HEND⟩
                        case measure => simp [intOf]; omega
            · obtain rfl : k = 3 := by omega
              have q1 : ¬ ((3 : Nat) : Int) < 3 := by omega
              go_wp2_with fail
              refine (awake15 _).mono ?_
              rintro e w30 ⟨rfl, hb⟩
              have HBE := Lib.hid (HB10.out.trans (HL.out.ap.below HZ0.out HB10.out.size))
              have HBF := Lib.hid (HBE.out.trans (hb.mono HBE.out.size))
              clear hb
              go_wp2_with fail
              go_ret
              exact ⟨rfl, HBF.out⟩
end Go.Proofs.YtkienpbmoilheaaGreat
