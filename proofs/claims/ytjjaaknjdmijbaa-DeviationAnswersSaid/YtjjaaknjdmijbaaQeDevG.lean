/- Deviations of drawn curves; Reach; the examples of the chapter. By the verifier's side. -/
import Derived.Test.YtjjaaknjdmijbaaQeDevF
import Derived.Test.YtjjaaknjdmijbaaQePwEToRowF
import Derived.Test.YtjjaaknjdmijbaaQeCurSToCurveNormalW
namespace Go.Proofs.Ytjjaaknjdmijbaa
open Go.RowKit
set_option linter.unusedSimpArgs false
set_option linter.unusedVariables false

theorem delay_day (a1 : Option Addr) (n1 cap1 : Nat) (z1 : List Int) (p1 : Nat) (i1 : Int) (g1 : Good z1 p1 i1) (a2 : Option Addr) (n2 cap2 : Nat) (z2 : List Int) (p2 : Nat) (i2 : Int) (g2 : Good z2 p2 i2) (h1 : Day (eC z1 p1 i1)) (h2 : Day (eC z2 p2 i2)) (w : World) (r1 : RowZ w a1 n1 cap1 z1) (r2 : RowZ w a2 n2 cap2 z2) :
    Calls Try.prog 56 #[curV a1 n1 cap1 p1 i1, curV a2 n2 cap2 p2 i2] w (GivesDev (DevD (eC z1 p1 i1) (eC z2 p2 i2)) w) := by
  obtain ⟨L, hL, y1, q1, j1, y2, q2, j2, hn1, hn2, hl⟩ := lcm_day g1 g2 h1 h2
  exact delay_ok a1 n1 cap1 z1 p1 i1 g1 a2 n2 cap2 z2 p2 i2 g2 hn1 hn2 L hl (by omega) w r1 r2
theorem backlog_day0 (a1 : Option Addr) (n1 cap1 : Nat) (z1 : List Int) (p1 : Nat) (i1 : Int) (g1 : Good z1 p1 i1) (a2 : Option Addr) (n2 cap2 : Nat) (z2 : List Int) (p2 : Nat) (i2 : Int) (g2 : Good z2 p2 i2) (h1 : Day (eC z1 p1 i1)) (h2 : Day (eC z2 p2 i2)) (w : World) (r1 : RowZ w a1 n1 cap1 z1) (r2 : RowZ w a2 n2 cap2 z2) :
    Calls Try.prog 58 #[curV a1 n1 cap1 p1 i1, curV a2 n2 cap2 p2 i2] w (GivesDev (DevB (fun t => eC z1 p1 i1 (t + 0)) (eC z2 p2 i2)) w) := by
  obtain ⟨L, hL, y1, q1, j1, y2, q2, j2, hn1, hn2, hl⟩ := lcm_day g1 g2 h1 h2
  exact backlog_ok a1 n1 cap1 z1 p1 i1 g1 a2 n2 cap2 z2 p2 i2 g2 hn1 hn2 L hl (by omega) w r1 r2
theorem peak_day (a1 : Option Addr) (n1 cap1 : Nat) (z1 : List Int) (p1 : Nat) (i1 : Int) (g1 : Good z1 p1 i1) (a2 : Option Addr) (n2 cap2 : Nat) (z2 : List Int) (p2 : Nat) (i2 : Int) (g2 : Good z2 p2 i2) (h1 : Day (eC z1 p1 i1)) (h2 : Day (eC z2 p2 i2)) (w : World) (r1 : RowZ w a1 n1 cap1 z1) (r2 : RowZ w a2 n2 cap2 z2) :
    Calls Try.prog 60 #[curV a1 n1 cap1 p1 i1, curV a2 n2 cap2 p2 i2] w (GivesDev (DevB (fun t => eC z1 p1 i1 (t + 1)) (eC z2 p2 i2)) w) := by
  obtain ⟨L, hL, y1, q1, j1, y2, q2, j2, hn1, hn2, hl⟩ := lcm_day g1 g2 h1 h2
  exact peak_ok a1 n1 cap1 z1 p1 i1 g1 a2 n2 cap2 z2 p2 i2 g2 hn1 hn2 L hl (by omega) w r1 r2
theorem backlog_day (a1 : Option Addr) (n1 cap1 : Nat) (z1 : List Int) (p1 : Nat) (i1 : Int) (g1 : Good z1 p1 i1) (a2 : Option Addr) (n2 cap2 : Nat) (z2 : List Int) (p2 : Nat) (i2 : Int) (g2 : Good z2 p2 i2) (h1 : Day (eC z1 p1 i1)) (h2 : Day (eC z2 p2 i2)) (w : World) (r1 : RowZ w a1 n1 cap1 z1) (r2 : RowZ w a2 n2 cap2 z2) :
    Calls Try.prog 58 #[curV a1 n1 cap1 p1 i1, curV a2 n2 cap2 p2 i2] w (GivesDev (DevB (eC z1 p1 i1) (eC z2 p2 i2)) w) :=
  backlog_day0 a1 n1 cap1 z1 p1 i1 g1 a2 n2 cap2 z2 p2 i2 g2 h1 h2 w r1 r2

/-- The first tick, with no error. -/
def GivesReach (E : Nat → Option Int) (V : Option Int) (w : World) (e : Ending) (w' : World) : Prop :=
  ∃ (o : Bool) (k : Nat), e = .returned (.tuple #[.int .i64 (k : Nat), .bool o, .int .i64 0]) ∧ Below w.heap.size w w' ∧ FirstP E V o k ∧ (k : Int) ≤ 144115188075855872
set_option maxHeartbeats 3200000 in
theorem reach1_ok (a : Option Addr) (n cap : Nat) (zs : List Int) (p : Nat) (inc : Int) (g : Good zs p inc) (V : Option Int) (hV : Asks V) (x : Int) (hx : enc V = x) (w : World) (h : RowZ w a n cap zs) :
    Calls Try.prog 63 #[curV a n cap p inc, .int .i64 x] w (GivesReach (eC zs p inc) V w) := by
  obtain ⟨W, hW⟩ : ∃ W, w.alloc (.cells #[.slice a n cap, .int .i64 p, .int .i64 inc] 24) = W := ⟨_, rfl⟩
  have hB : Below w.heap.size w W := by rw [← hW]; exact (Below.refl _ _).alloc (Nat.le_refl _) _
  have KF := Lib.hid (show Cur3 W w.heap.size (.slice a n cap) (.int .i64 p) (.int .i64 inc) by rw [← hW]; exact Cur3.new w _ _ _ _)
  have H := Lib.hid (h.under hB)
  have HB := Lib.hid hB
  have G := Lib.hid g
  have HX := Lib.hid (And.intro hV hx)
  have V1 := Lib.hid ((okC_iff zs p inc).2 g)
  have e1 : In64 (p : Int) := ⟨by omega, by have := g.p2; omega⟩
  have e3 : In64 inc := ⟨by have := g.i0; omega, by have := g.i1; omega⟩
  have HI := Lib.hid (And.intro e1 e3)
  have hcase : x = 4611686018427387904 ∨ (¬ x = 4611686018427387904 ∧ ¬ x < 0 ∧ ¬ (1125899906842624 : Int) < x) := by
    rw [← hx]
    cases V with
    | none => exact .inl rfl
    | some v => obtain ⟨h1, h2⟩ := hV v rfl; right; show ¬ v = _ ∧ ¬ v < 0 ∧ ¬ _ < v; omega
  have HW := Lib.hid hW
  obtain ⟨c0, c1, c2, f0, f1, f2⟩ := KF.out
  clear hB h g hV hx e1 e3 hW
  go_enter Try.func63, Try.ntmps63
  go_upto_region 1 with fail
  try rw [HW.out]
  go_wp2_with fail
  refine (valid_any a n cap zs p inc HI.out.1 HI.out.2 true V1.out _ H.out).mono ?_
  rintro e w1 ⟨rfl, hb⟩
  have H1 := Lib.hid (H.out.under hb)
  have HB1 := Lib.hid (HB.out.trans (hb.mono HB.out.size))
  clear c0 c1 c2 f0 f1 f2
  obtain ⟨c0, c1, c2, f0, f1, f2⟩ := KF.out.below hb
  clear hb
  rcases hcase with rfl | ⟨d1, d2, d3⟩
  · go_wp2_with fail
    refine (reach_any a n cap zs p inc G.out V HX.out.1 _ HX.out.2 _ H1.out).mono ?_
    rintro e w2 ⟨o, k, rfl, hb, hF, hk⟩
    have HF := Lib.hid (show GivesReach (eC zs p inc) V w (.returned (.tuple #[.int .i64 (k : Nat), .bool o, .int .i64 0])) w2 from ⟨o, k, rfl, HB1.out.trans (hb.mono HB1.out.size), hF, hk⟩)
    clear hb hF
    go_wp2_with fail
    go_ret3
    exact HF.out
  · have t1 : (x != 4611686018427387904) = true := by simpa using d1
    have t2 : decide (x < 0) = false := decide_eq_false (by omega)
    have t3 : decide ((1125899906842624 : Int) < x) = false := decide_eq_false (by omega)
    go_wp2_with fail
    refine (reach_any a n cap zs p inc G.out V HX.out.1 _ HX.out.2 _ H1.out).mono ?_
    rintro e w2 ⟨o, k, rfl, hb, hF, hk⟩
    have HF := Lib.hid (show GivesReach (eC zs p inc) V w (.returned (.tuple #[.int .i64 (k : Nat), .bool o, .int .i64 0])) w2 from ⟨o, k, rfl, HB1.out.trans (hb.mono HB1.out.size), hF, hk⟩)
    clear hb hF
    go_wp2_with fail
    go_ret3
    exact HF.out

theorem ex_f (t : Nat) : atC [0, 10, 12] 1 2 t = if t = 0 then 0 else 8 + 2 * (t : Int) := by
  rcases (show t = 0 ∨ t = 1 ∨ t = 2 ∨ 3 ≤ t by omega) with rfl | rfl | rfl | h
  · decide
  · decide
  · decide
  · rw [if_neg (by omega), atC_ge (by decide) h]
    simp only [show ([0, 10, 12] : List Int).length = 3 from rfl, Nat.div_one, Nat.mul_one]
    rw [show t - (t - 3 + 1) = 2 by omega]
    show (12 : Int) + ((t - 3 + 1 : Nat) : Int) * 2 = _
    omega
theorem ex_g (t : Nat) : atC [0, 0, 0, 0] 1 4 t = 4 * ((t - 3 : Nat) : Int) := by
  rcases (show t = 0 ∨ t = 1 ∨ t = 2 ∨ t = 3 ∨ 4 ≤ t by omega) with rfl | rfl | rfl | rfl | h
  · decide
  · decide
  · decide
  · decide
  · rw [atC_ge (by decide) h]
    simp only [show ([0, 0, 0, 0] : List Int).length = 4 from rfl, Nat.div_one, Nat.mul_one]
    rw [show t - (t - 4 + 1) = 3 by omega]
    show (0 : Int) + ((t - 4 + 1 : Nat) : Int) * 4 = _
    omega
theorem ex_ff (t : Nat) : eC [0, 10, 12] 1 2 t = some (if t = 0 then 0 else 8 + 2 * (t : Int)) := by rw [eC_fin (by unfold InfC; decide), ex_f]
theorem ex_gg (t : Nat) : eC [0, 0, 0, 0] 1 4 t = some (4 * ((t - 3 : Nat) : Int)) := by rw [eC_fin (by unfold InfC; decide), ex_g]
theorem ex_fgood : Good [0, 10, 12] 1 2 := (okC_iff _ _ _).1 (by decide)
theorem ex_ggood : Good [0, 0, 0, 0] 1 4 := (okC_iff _ _ _).1 (by decide)
theorem ex_fday : Day (eC [0, 10, 12] 1 2) := day_some (s := 1) (c := 48) (fun t ht => ex_ff t) fun t ht => by
  show (if t + 24 = 0 then 0 else 8 + 2 * ((t + 24 : Nat) : Int)) = (if t = 0 then 0 else 8 + 2 * (t : Int)) + 48
  rw [if_neg (by omega), if_neg (by omega)]; omega
theorem ex_gday : Day (eC [0, 0, 0, 0] 1 4) := day_some (s := 3) (c := 96) (fun t ht => ex_gg t) fun t ht => by
  show 4 * ((t + 24 - 3 : Nat) : Int) = 4 * ((t - 3 : Nat) : Int) + 96
  omega
theorem ex_delay : DevD (eC [0, 10, 12] 1 2) (eC [0, 0, 0, 0] 1 4) false 5 1 := by
  refine ⟨5, rfl, .inr ⟨rfl, fun t => ?_, .inr ⟨by omega, ?_, fun t ht => ?_⟩⟩, by omega, by omega⟩
  · rw [ex_ff, ex_gg, ole_some_iff]
    split <;> omega
  · rw [ex_ff, ex_gg, ole_some_iff]; decide
  · obtain rfl : t = 0 := by omega
    rw [ex_ff, ex_gg, ole_some_iff]; decide
theorem ex_delay2 : DevD (eC [0, 0, 0, 0] 1 4) (eC [0, 10, 12] 1 2) true 0 0 := by
  refine ⟨0, rfl, .inl ⟨rfl, rfl, rfl, fun d => ⟨d + 11, ?_⟩⟩, by omega, by omega⟩
  rw [ex_ff, ex_gg, ole_some_iff, if_neg (by omega)]
  omega
theorem ex_back : DevB (eC [0, 10, 12] 1 2) (eC [0, 0, 0, 0] 1 4) false 14 3 := by
  refine ⟨.inr ⟨rfl, by omega, fun t y hy => ?_, .inr ⟨by omega, ⟨0, ?_, ?_⟩, fun t y ht hy => ?_⟩⟩, by omega, by omega, by omega⟩
  · rw [ex_gg] at hy; cases hy
    rw [ex_ff, ole_some_iff]; split <;> omega
  · rw [ex_gg]; rfl
  · rw [ex_ff]; rfl
  · rw [ex_gg] at hy; cases hy
    rw [ex_ff, ole_some_iff]; split <;> omega
theorem ex_peak : DevB (fun t => eC [0, 10, 12] 1 2 (t + 1)) (eC [0, 0, 0, 0] 1 4) false 16 3 := by
  refine ⟨.inr ⟨rfl, by omega, fun t y hy => ?_, .inr ⟨by omega, ⟨0, ?_, ?_⟩, fun t y ht hy => ?_⟩⟩, by omega, by omega, by omega⟩
  · rw [ex_gg] at hy; cases hy
    simp only []; rw [ex_ff, ole_some_iff, if_neg (by omega)]; omega
  · rw [ex_gg]; rfl
  · simp only []; rw [ex_ff]; rfl
  · rw [ex_gg] at hy; cases hy
    simp only []; rw [ex_ff, ole_some_iff, if_neg (by omega)]; omega
theorem ex_reach : FirstP (eC [0, 0, 0, 0] 1 4) (some 10) true 6 := by
  refine .inl ⟨rfl, ?_, fun y hy => ?_⟩
  · rw [ex_gg, ole_some_iff]; decide
  · rw [ex_gg, ole_some_iff]; omega

set_option maxRecDepth 100000 in
set_option maxHeartbeats 6400000 in
theorem awake10 (w : World) : Calls Try.prog 55 #[] w (Says (.bool true) w) := by
  obtain ⟨w0, hw0⟩ : ∃ W, (((w.alloc (.cells #[.int .i64 0, .int .i64 10, .int .i64 12] 3)).alloc (.cells #[.int .i64 0, .int .i64 0, .int .i64 0, .int .i64 0] 3)).alloc (.cells #[.slice (some ⟨w.heap.size, 0, none⟩) 3 3, .int .i64 1, .int .i64 2] 24)).alloc (.cells #[.slice (some ⟨w.heap.size + 1, 0, none⟩) 4 4, .int .i64 1, .int .i64 4] 24) = W := ⟨_, rfl⟩
  have hz1 : Below w.heap.size w (w.alloc (.cells #[.int .i64 0, .int .i64 10, .int .i64 12] 3)) := below_box _
  have hz2 : Below (w.alloc (.cells #[.int .i64 0, .int .i64 10, .int .i64 12] 3)).heap.size (w.alloc (.cells #[.int .i64 0, .int .i64 10, .int .i64 12] 3)) ((w.alloc (.cells #[.int .i64 0, .int .i64 10, .int .i64 12] 3)).alloc (.cells #[.int .i64 0, .int .i64 0, .int .i64 0, .int .i64 0] 3)) := below_box _
  have hz3 : Below ((w.alloc (.cells #[.int .i64 0, .int .i64 10, .int .i64 12] 3)).alloc (.cells #[.int .i64 0, .int .i64 0, .int .i64 0, .int .i64 0] 3)).heap.size ((w.alloc (.cells #[.int .i64 0, .int .i64 10, .int .i64 12] 3)).alloc (.cells #[.int .i64 0, .int .i64 0, .int .i64 0, .int .i64 0] 3)) ((((w.alloc (.cells #[.int .i64 0, .int .i64 10, .int .i64 12] 3)).alloc (.cells #[.int .i64 0, .int .i64 0, .int .i64 0, .int .i64 0] 3)).alloc (.cells #[.slice (some ⟨w.heap.size, 0, none⟩) 3 3, .int .i64 1, .int .i64 2] 24)).alloc (.cells #[.slice (some ⟨w.heap.size + 1, 0, none⟩) 4 4, .int .i64 1, .int .i64 4] 24)) := (below_box _).alloc (by simp) _
  have ra := ((rowZ_lit w [0, 10, 12] 3 (by decide) (by decide)).under hz2).under hz3
  have rb := (rowZ_lit (w.alloc (.cells #[.int .i64 0, .int .i64 10, .int .i64 12] 3)) [0, 0, 0, 0] 3 (by decide) (by decide)).under hz3
  have Xf := Lib.hid (show Bx w0 (w.heap.size + 2) (some ⟨w.heap.size, 0, none⟩) 3 3 1 2 [0, 10, 12] by
    rw [← hw0]
    refine ⟨?_, ra⟩
    have := (Cur3.new ((w.alloc (.cells #[.int .i64 0, .int .i64 10, .int .i64 12] 3)).alloc (.cells #[.int .i64 0, .int .i64 0, .int .i64 0, .int .i64 0] 3)) (.slice (some ⟨w.heap.size, 0, none⟩) 3 3) (.int .i64 1) (.int .i64 2) 24).alloc (.cells #[.slice (some ⟨w.heap.size + 1, 0, none⟩) 4 4, .int .i64 1, .int .i64 4] 24)
    simpa using this)
  have Xg := Lib.hid (show Bx w0 (w.heap.size + 3) (some ⟨w.heap.size + 1, 0, none⟩) 4 4 1 4 [0, 0, 0, 0] by
    rw [← hw0]
    refine ⟨?_, by simpa using rb⟩
    have := Cur3.new (((w.alloc (.cells #[.int .i64 0, .int .i64 10, .int .i64 12] 3)).alloc (.cells #[.int .i64 0, .int .i64 0, .int .i64 0, .int .i64 0] 3)).alloc (.cells #[.slice (some ⟨w.heap.size, 0, none⟩) 3 3, .int .i64 1, .int .i64 2] 24)) (.slice (some ⟨w.heap.size + 1, 0, none⟩) 4 4) (.int .i64 1) (.int .i64 4) 24
    simpa using this)
  have HB0 := Lib.hid (show Below w.heap.size w w0 by rw [← hw0]; exact (hz1.trans (hz2.mono hz1.size)).trans (hz3.mono (by simp; omega)))
  have HW0 := Lib.hid hw0
  clear hw0 hz1 hz2 hz3 ra rb
  go_enter Try.func55, Try.ntmps55
  go_upto_region 2 with fail
  try rw [HW0.out]
  obtain ⟨F, hF⟩ : ∃ F, w.heap.size + 2 = F := ⟨_, rfl⟩
  rw [hF] at Xf
  try rw [hF]
  have HFF := Lib.hid hF
  have hFG : w.heap.size + 3 = F + 1 := by omega
  rw [hFG] at Xg
  clear hF hFG
  obtain ⟨G, hG⟩ : ∃ G, F + 1 = G := ⟨_, rfl⟩
  rw [hG] at Xg
  try rw [hG]
  clear hG
  obtain ⟨c0, c1, c2, c3, c4, c5⟩ := Xf.out.box
  obtain ⟨d0, d1, d2, d3, d4, d5⟩ := Xg.out.box
  go_wp2_with fail
  clear c0 c1 c2 c3 c4 c5 d0 d1 d2 d3 d4 d5
  refine (delay_day (some ⟨w.heap.size, 0, none⟩) 3 3 [0, 10, 12] 1 2 ex_fgood (some ⟨w.heap.size + 1, 0, none⟩) 4 4 [0, 0, 0, 0] 1 4 ex_ggood ex_fday ex_gday _ Xf.out.row Xg.out.row).mono ?_
  rintro e v1 ⟨i, m, k, rfl, hb, hD⟩
  obtain ⟨rfl, rfl, rfl⟩ := hD.unique (up_eC ex_ggood) ex_delay
  obtain ⟨w1, hw⟩ : ∃ w', v1.alloc (.cells #[.bool false, .int .i64 5, .int .i64 1] 74) = w' := ⟨_, rfl⟩
  have hz : Below w0.heap.size w0 w1 := by rw [← hw]; exact hb.trans ((below_box _).mono hb.size)
  have Xf := Lib.hid (Xf.out.under hz)
  have Xg := Lib.hid (Xg.out.under hz)
  have D1 := Lib.hid (show Cur3 w1 v1.heap.size (.bool false) (.int .i64 5) (.int .i64 1) by rw [← hw]; exact Cur3.new v1 _ _ _ _)
  have HB1 := Lib.hid (HB0.out.trans (hz.mono HB0.out.size))
  have HW1 := Lib.hid hw
  clear hb hD hz hw
  go_upto_region 3 with fail
  try rw [HW1.out]
  obtain ⟨Q1, hQ⟩ : ∃ Q, v1.heap.size = Q := ⟨_, rfl⟩
  rw [hQ] at D1
  try rw [hQ]
  clear hQ HW1
  obtain ⟨c0, c1, c2, c3, c4, c5⟩ := Xf.out.box
  obtain ⟨d0, d1, d2, d3, d4, d5⟩ := Xg.out.box
  go_wp2_with fail
  clear c0 c1 c2 c3 c4 c5 d0 d1 d2 d3 d4 d5
  refine (backlog_day (some ⟨w.heap.size, 0, none⟩) 3 3 [0, 10, 12] 1 2 ex_fgood (some ⟨w.heap.size + 1, 0, none⟩) 4 4 [0, 0, 0, 0] 1 4 ex_ggood ex_fday ex_gday _ Xf.out.row Xg.out.row).mono ?_
  rintro e v2 ⟨i, m, k, rfl, hb, hD⟩
  obtain ⟨rfl, rfl, rfl⟩ := hD.1.unique ex_back.1
  obtain ⟨w2, hw⟩ : ∃ w', v2.alloc (.cells #[.bool false, .int .i64 14, .int .i64 3] 74) = w' := ⟨_, rfl⟩
  have hz : Below w1.heap.size w1 w2 := by rw [← hw]; exact hb.trans ((below_box _).mono hb.size)
  have Xf := Lib.hid (Xf.out.under hz)
  have Xg := Lib.hid (Xg.out.under hz)
  have D2 := Lib.hid (show Cur3 w2 v2.heap.size (.bool false) (.int .i64 14) (.int .i64 3) by rw [← hw]; exact Cur3.new v2 _ _ _ _)
  have D1 := Lib.hid (D1.out.below hz)
  have HB2 := Lib.hid (HB1.out.trans (hz.mono HB1.out.size))
  have HW2 := Lib.hid hw
  clear hb hD hz hw
  go_upto_region 4 with fail
  try rw [HW2.out]
  obtain ⟨Q2, hQ⟩ : ∃ Q, v2.heap.size = Q := ⟨_, rfl⟩
  rw [hQ] at D2
  try rw [hQ]
  clear hQ HW2
  obtain ⟨c0, c1, c2, c3, c4, c5⟩ := Xf.out.box
  obtain ⟨d0, d1, d2, d3, d4, d5⟩ := Xg.out.box
  go_wp2_with fail
  clear c0 c1 c2 c3 c4 c5 d0 d1 d2 d3 d4 d5
  refine (peak_day (some ⟨w.heap.size, 0, none⟩) 3 3 [0, 10, 12] 1 2 ex_fgood (some ⟨w.heap.size + 1, 0, none⟩) 4 4 [0, 0, 0, 0] 1 4 ex_ggood ex_fday ex_gday _ Xf.out.row Xg.out.row).mono ?_
  rintro e v3 ⟨i, m, k, rfl, hb, hD⟩
  obtain ⟨rfl, rfl, rfl⟩ := hD.1.unique ex_peak.1
  obtain ⟨w3, hw⟩ : ∃ w', v3.alloc (.cells #[.bool false, .int .i64 16, .int .i64 3] 74) = w' := ⟨_, rfl⟩
  have hz : Below w2.heap.size w2 w3 := by rw [← hw]; exact hb.trans ((below_box _).mono hb.size)
  have Xf := Lib.hid (Xf.out.under hz)
  have Xg := Lib.hid (Xg.out.under hz)
  have D3 := Lib.hid (show Cur3 w3 v3.heap.size (.bool false) (.int .i64 16) (.int .i64 3) by rw [← hw]; exact Cur3.new v3 _ _ _ _)
  have D1 := Lib.hid (D1.out.below hz)
  have D2 := Lib.hid (D2.out.below hz)
  have HB3 := Lib.hid (HB2.out.trans (hz.mono HB2.out.size))
  have HW3 := Lib.hid hw
  clear hb hD hz hw
  go_upto_region 5 with fail
  try rw [HW3.out]
  obtain ⟨Q3, hQ⟩ : ∃ Q, v3.heap.size = Q := ⟨_, rfl⟩
  rw [hQ] at D3
  try rw [hQ]
  clear hQ HW3
  obtain ⟨c0, c1, c2, c3, c4, c5⟩ := Xf.out.box
  obtain ⟨d0, d1, d2, d3, d4, d5⟩ := Xg.out.box
  go_wp2_with fail
  clear c0 c1 c2 c3 c4 c5 d0 d1 d2 d3 d4 d5
  refine (delay_day (some ⟨w.heap.size + 1, 0, none⟩) 4 4 [0, 0, 0, 0] 1 4 ex_ggood (some ⟨w.heap.size, 0, none⟩) 3 3 [0, 10, 12] 1 2 ex_fgood ex_gday ex_fday _ Xg.out.row Xf.out.row).mono ?_
  rintro e v4 ⟨i, m, k, rfl, hb, hD⟩
  obtain ⟨rfl, rfl, rfl⟩ := hD.unique (up_eC ex_fgood) ex_delay2
  obtain ⟨w4, hw⟩ : ∃ w', v4.alloc (.cells #[.bool true, .int .i64 0, .int .i64 0] 74) = w' := ⟨_, rfl⟩
  have hz : Below w3.heap.size w3 w4 := by rw [← hw]; exact hb.trans ((below_box _).mono hb.size)
  have Xf := Lib.hid (Xf.out.under hz)
  have Xg := Lib.hid (Xg.out.under hz)
  have D4 := Lib.hid (show Cur3 w4 v4.heap.size (.bool true) (.int .i64 0) (.int .i64 0) by rw [← hw]; exact Cur3.new v4 _ _ _ _)
  have D1 := Lib.hid (D1.out.below hz)
  have D2 := Lib.hid (D2.out.below hz)
  have D3 := Lib.hid (D3.out.below hz)
  have HB4 := Lib.hid (HB3.out.trans (hz.mono HB3.out.size))
  have HW4 := Lib.hid hw
  clear hb hD hz hw
  go_upto_region 6 with fail
  try rw [HW4.out]
  obtain ⟨Q4, hQ⟩ : ∃ Q, v4.heap.size = Q := ⟨_, rfl⟩
  rw [hQ] at D4
  try rw [hQ]
  clear hQ HW4
  obtain ⟨d0, d1, d2, d3, d4, d5⟩ := Xg.out.box
  go_wp2_with fail
  clear d0 d1 d2 d3 d4 d5
  refine (reach1_ok (some ⟨w.heap.size + 1, 0, none⟩) 4 4 [0, 0, 0, 0] 1 4 ex_ggood (some 10) (fun v hv => by cases hv; omega) 10 rfl _ Xg.out.row).mono ?_
  rintro e v5 ⟨o, k, rfl, hb, hF, hk⟩
  obtain ⟨rfl, rfl⟩ := hF.unique ex_reach
  obtain ⟨a10, a11, a12, a13, a14, a15⟩ := D1.out.below hb
  obtain ⟨a20, a21, a22, a23, a24, a25⟩ := D2.out.below hb
  obtain ⟨a30, a31, a32, a33, a34, a35⟩ := D3.out.below hb
  obtain ⟨a40, a41, a42, a43, a44, a45⟩ := D4.out.below hb
  have HB5 := Lib.hid (HB4.out.trans (hb.mono HB4.out.size))
  clear hb hF hk
  go_wp2_with fail
  go_ret
  exact ⟨rfl, HB5.out⟩
end Go.Proofs.Ytjjaaknjdmijbaa
