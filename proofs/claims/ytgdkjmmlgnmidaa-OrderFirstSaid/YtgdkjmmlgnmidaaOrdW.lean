/- The examples of chapter 4 (awake), and value. By the verifier's side. -/
import Derived.Test.YtgdkjmmlgnmidaaOrdD
import Derived.Test.YtgdkjmmlgnmidaaCurW
namespace Go.Proofs.Ytgdkjmmlgnmidaa
open Go.RowKit
set_option linter.unusedSimpArgs false

theorem g3_good : Good [0, 10, 12] 1 2 := (okC_iff [0, 10, 12] 1 2).1 (by decide)
theorem f3_fin : ¬ InfC [0] := by rw [infC_iff]; decide
theorem g3_fin : ¬ InfC [0, 10, 12] := by rw [infC_iff]; decide
theorem f3_at (t : Nat) : atC [0] 1 3 t = 3 * (t : Int) := by
  have hp := zero_good.per (show ¬ ([0] : List Int).getD (([0] : List Int).length - 1) 0 = infV by decide)
  induction t with
  | zero => decide
  | succ t ih => have := hp t (Nat.zero_le _); omega
theorem g3_at (t : Nat) (ht : 2 ≤ t) : atC [0, 10, 12] 1 2 t = 8 + 2 * (t : Int) := by
  have hp := g3_good.per (show ¬ ([0, 10, 12] : List Int).getD (([0, 10, 12] : List Int).length - 1) 0 = infV by decide)
  induction t with
  | zero => omega
  | succ t ih =>
    by_cases h : t = 1
    · subst h; decide
    · have h1 := hp t (by show 2 ≤ t; omega)
      have h2 := ih (by omega)
      omega
theorem g3_at0 : atC [0, 10, 12] 1 2 0 = 0 := by decide
theorem g3_at1 : atC [0, 10, 12] 1 2 1 = 10 := by decide

theorem ex_exc : ExcP (dC [0] 1 3 [0, 10, 12] 1 2) 9 true := by
  refine .inl ⟨rfl, 9, rfl, ?_, fun u hu => ?_⟩
  · rw [dC_fin f3_fin g3_fin, f3_at, g3_at _ (by omega)]; decide
  · rw [dC_fin f3_fin g3_fin, f3_at]
    by_cases h : 2 ≤ u
    · rw [g3_at _ h]; omega
    · have : u = 0 ∨ u = 1 := by omega
      rcases this with rfl | rfl
      · rw [g3_at0]; decide
      · rw [g3_at1]; decide
theorem ex_set : SetP (dC [0, 10, 12] 1 2 [0] 1 3) 8 true := by
  refine .inl ⟨rfl, 8, rfl, fun u hu => ?_, .inr ?_⟩
  · rw [dC_fin g3_fin f3_fin, f3_at, g3_at _ (by omega)]; omega
  · rw [dC_fin g3_fin f3_fin, f3_at, g3_at _ (by omega)]; decide
theorem ex_meet : MeetP (dC [0] 1 3 [0, 10, 12] 1 2) 0 false := by
  refine .inr ⟨rfl, rfl, fun T => ⟨T + 9, by omega, ?_⟩⟩
  rw [dC_fin f3_fin g3_fin, f3_at, g3_at _ (by omega)]; omega
theorem ex_self : ExcP (dC [0] 1 3 [0] 1 3) 0 false := by
  refine .inr ⟨rfl, rfl, fun u => ?_⟩
  rw [dC_fin f3_fin f3_fin]; omega

theorem two_lits (w : World) : Two ((((w.alloc (.cells #[.int .i64 0] 3)).alloc (.cells #[.int .i64 0, .int .i64 10, .int .i64 12] 3)).alloc (.cells #[.slice (some ⟨w.heap.size, 0, none⟩) 1 1, .int .i64 1, .int .i64 3] 24)).alloc (.cells #[.slice (some ⟨w.heap.size + 1, 0, none⟩) 3 3, .int .i64 1, .int .i64 2] 24)) (w.heap.size + 1 + 1) (some ⟨w.heap.size, 0, none⟩) 1 1 1 3 [0] (w.heap.size + 1 + 1 + 1) (some ⟨w.heap.size + 1, 0, none⟩) 3 3 1 2 [0, 10, 12] ∧ Below w.heap.size w ((((w.alloc (.cells #[.int .i64 0] 3)).alloc (.cells #[.int .i64 0, .int .i64 10, .int .i64 12] 3)).alloc (.cells #[.slice (some ⟨w.heap.size, 0, none⟩) 1 1, .int .i64 1, .int .i64 3] 24)).alloc (.cells #[.slice (some ⟨w.heap.size + 1, 0, none⟩) 3 3, .int .i64 1, .int .i64 2] 24)) := by
  have r1 := rowZ_lit w [0] 3 (by decide) (by decide)
  have r2 := rowZ_lit (w.alloc (.cells #[.int .i64 0] 3)) [0, 10, 12] 3 (by decide) (by decide)
  have e1 : (w.alloc (.cells #[.int .i64 0] 3)).heap.size = w.heap.size + 1 := by simp
  rw [e1] at r2
  have b1 := Cur3.new ((w.alloc (.cells #[.int .i64 0] 3)).alloc (.cells #[.int .i64 0, .int .i64 10, .int .i64 12] 3)) (.slice (some ⟨w.heap.size, 0, none⟩) 1 1) (.int .i64 1) (.int .i64 3) 24
  rw [show ((w.alloc (.cells #[.int .i64 0] 3)).alloc (.cells #[.int .i64 0, .int .i64 10, .int .i64 12] 3)).heap.size = w.heap.size + 1 + 1 by simp] at b1
  have b2 := Cur3.new (((w.alloc (.cells #[.int .i64 0] 3)).alloc (.cells #[.int .i64 0, .int .i64 10, .int .i64 12] 3)).alloc (.cells #[.slice (some ⟨w.heap.size, 0, none⟩) 1 1, .int .i64 1, .int .i64 3] 24)) (.slice (some ⟨w.heap.size + 1, 0, none⟩) 3 3) (.int .i64 1) (.int .i64 2) 24
  rw [show (((w.alloc (.cells #[.int .i64 0] 3)).alloc (.cells #[.int .i64 0, .int .i64 10, .int .i64 12] 3)).alloc (.cells #[.slice (some ⟨w.heap.size, 0, none⟩) 1 1, .int .i64 1, .int .i64 3] 24)).heap.size = w.heap.size + 1 + 1 + 1 by simp] at b2
  exact ⟨⟨b1.alloc _, ((r1.alloc _).alloc _).alloc _, b2, (r2.alloc _).alloc _⟩, ((((Below.refl _ _).alloc (Nat.le_refl _) _).alloc (by simp) _).alloc (by simp; omega) _).alloc (by simp; omega) _⟩

set_option maxRecDepth 100000 in
set_option maxHeartbeats 3200000 in
theorem awake4 (w : World) : Calls Try.prog 10 #[] w (Says (.bool true) w) := by
  have T0 := Lib.hid (two_lits w).1
  have HB0 := Lib.hid (two_lits w).2
  go_enter Try.func10, Try.ntmps10
  go_wp2_with fail
  generalize ((((w.alloc (.cells #[.int .i64 0] 3)).alloc (.cells #[.int .i64 0, .int .i64 10, .int .i64 12] 3)).alloc (.cells #[.slice (some ⟨w.heap.size, 0, none⟩) 1 1, .int .i64 1, .int .i64 3] 24)).alloc (.cells #[.slice (some ⟨w.heap.size + 1, 0, none⟩) 3 3, .int .i64 1, .int .i64 2] 24)) = w0 at T0 HB0 ⊢
  refine (exceeds_ok (some ⟨w.heap.size, 0, none⟩) 1 1 [0] 1 3 zero_good (some ⟨w.heap.size + 1, 0, none⟩) 3 3 [0, 10, 12] 1 2 g3_good 9 true _ T0.out.rx T0.out.ry ex_exc).mono ?_
  rintro e w1 ⟨rfl, hb⟩
  have T1 := Lib.hid (T0.out.under hb)
  have HB1 := Lib.hid (HB0.out.trans (hb.mono HB0.out.size))
  obtain ⟨c0, c1, c2, f0, f1, f2⟩ := T1.out.bx
  obtain ⟨d0, d1, d2, g0, g1, g2⟩ := T1.out.by'
  clear hb T0 HB0
  go_wp2_with fail
  clear c0 c1 c2 f0 f1 f2 d0 d1 d2 g0 g1 g2
  refine (settles_ok (some ⟨w.heap.size + 1, 0, none⟩) 3 3 [0, 10, 12] 1 2 g3_good (some ⟨w.heap.size, 0, none⟩) 1 1 [0] 1 3 zero_good 8 true _ T1.out.ry T1.out.rx ex_set).mono ?_
  rintro e w2 ⟨rfl, hb⟩
  have T2 := Lib.hid (T1.out.under hb)
  have HB2 := Lib.hid (HB1.out.trans (hb.mono HB1.out.size))
  obtain ⟨c0, c1, c2, f0, f1, f2⟩ := T2.out.bx
  obtain ⟨d0, d1, d2, g0, g1, g2⟩ := T2.out.by'
  clear hb T1 HB1
  go_wp2_with fail
  clear c0 c1 c2 f0 f1 f2 d0 d1 d2 g0 g1 g2
  refine (meets_ok (some ⟨w.heap.size, 0, none⟩) 1 1 [0] 1 3 zero_good (some ⟨w.heap.size + 1, 0, none⟩) 3 3 [0, 10, 12] 1 2 g3_good 0 false _ T2.out.rx T2.out.ry ex_meet).mono ?_
  rintro e w3 ⟨rfl, hb⟩
  have T3 := Lib.hid (T2.out.under hb)
  have HB3 := Lib.hid (HB2.out.trans (hb.mono HB2.out.size))
  obtain ⟨c0, c1, c2, f0, f1, f2⟩ := T3.out.bx
  obtain ⟨d0, d1, d2, g0, g1, g2⟩ := T3.out.by'
  clear hb T2 HB2
  go_wp2_with fail
  clear c0 c1 c2 f0 f1 f2 d0 d1 d2 g0 g1 g2
  refine (atMost_ok (some ⟨w.heap.size, 0, none⟩) 1 1 [0] 1 3 zero_good (some ⟨w.heap.size, 0, none⟩) 1 1 [0] 1 3 zero_good 0 false _ T3.out.rx T3.out.rx ex_self).mono ?_
  rintro e w4 ⟨rfl, hb⟩
  have T4 := Lib.hid (T3.out.under hb)
  have HB4 := Lib.hid (HB3.out.trans (hb.mono HB3.out.size))
  obtain ⟨c0, c1, c2, f0, f1, f2⟩ := T4.out.bx
  obtain ⟨d0, d1, d2, g0, g1, g2⟩ := T4.out.by'
  clear hb T3 HB3
  go_wp2_with fail
  clear c0 c1 c2 f0 f1 f2 d0 d1 d2 g0 g1 g2
  refine (atMost_ok (some ⟨w.heap.size, 0, none⟩) 1 1 [0] 1 3 zero_good (some ⟨w.heap.size + 1, 0, none⟩) 3 3 [0, 10, 12] 1 2 g3_good 9 true _ T4.out.rx T4.out.ry ex_exc).mono ?_
  rintro e w5 ⟨rfl, hb⟩
  have HB5 := Lib.hid (HB4.out.trans (hb.mono HB4.out.size))
  clear hb
  go_wp2_with fail
  go_ret
  exact ⟨rfl, HB5.out⟩

set_option maxHeartbeats 800000 in
theorem value4 (a : Option Addr) (n cap : Nat) (zs : List Int) (p : Nat) (inc : Int) (g : Good zs p inc) (ti : Int) (t : Nat) (hti : ti = t) (ht : t ≤ 1048576) (v : Int) (hv : atC zs p inc t = v) (w : World) (h : RowZ w a n cap zs) :
    Calls Try.prog 25 #[curV a n cap p inc, .int .i64 ti] w (Says (.int .i64 v) w) := by
  have hB := box_below w (.cells #[.slice a n cap, .int .i64 p, .int .i64 inc] 24)
  have HBl := Lib.hid hB
  have H := Lib.hid (h.under hB)
  have G := Lib.hid g
  have HV := Lib.hid hv
  have HT := Lib.hid hti
  clear h hB g hv hti
  go_enter Try.func25, Try.ntmps25
  go_wp2_with fail
  refine (value_at a n cap zs p inc G.out ti t HT.out ht v HV.out _ H.out).mono ?_
  rintro e w1 ⟨rfl, hb⟩
  have HB1 := Lib.hid (HBl.out.trans (hb.mono HBl.out.size))
  clear hb
  go_wp2_with fail
  go_ret
  exact ⟨rfl, HB1.out⟩
end Go.Proofs.Ytgdkjmmlgnmidaa
