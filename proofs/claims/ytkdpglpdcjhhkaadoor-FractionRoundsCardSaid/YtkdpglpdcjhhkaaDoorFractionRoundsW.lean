/- The walk of FractionRounds. By the verifier's side. -/
import Derived.Test.YtkdpglpdcjhhkaaDoorAwake
import Derived.Test.YtkdpglpdcjhhkaaDoorSrc
import Derived.Test.YtkdpglpdcjhhkaaDoorMathB
import Derived.Deep.RegionHeld3
import Derived.Deep.DeepCutAuto
namespace Go.Proofs.YtkdpglpdcjhhkaaDoor
open Go.RowKit
set_option linter.unusedSimpArgs false

theorem keep2 {w0 w w' : World} {p : Nat} {x d : Value} (hb : Below w.heap.size w w') (h : w.cell? ⟨p, 0, none⟩ = some x ∧ w.cell? ⟨p, 1, none⟩ = some d ∧ Hid (Below w0.heap.size w0 w)) (hp : p < w0.heap.size) :
    w'.cell? ⟨p, 0, none⟩ = some x ∧ w'.cell? ⟨p, 1, none⟩ = some d ∧ Hid (Below w0.heap.size w0 w') :=
  have hl : p < w.heap.size := Nat.lt_of_lt_of_le hp h.2.2.out.size
  ⟨(hb.cell (p := ⟨p, 0, none⟩) hl).trans h.1, (hb.cell (p := ⟨p, 1, none⟩) hl).trans h.2.1, h.2.2.out.trans (hb.mono h.2.2.out.size)⟩

set_option maxRecDepth 100000 in
set_option maxHeartbeats 3200000 in
theorem fractionRounds_walk (W : World) (h0 : Lib0 W) (a : Option Addr) (n cap : Nat) (hrow : RowAt W a n cap) :
    Calls Tryd.prog 5 #[.slice a n cap] W fun e w' => e = .returned (.bool true) ∧ Below W.heap.size W w' := by
  have H0 := Lib.hid h0
  have HR := Lib.hid hrow
  clear h0 hrow
  go_enter Tryd.func5, Tryd.ntmps5
  go_wp2_with fail
  refine (new_any a n cap _ HR.out).mono ?_
  rintro e w1 ⟨rfl, hb1, hz1, a1, n1, cap1, hs1⟩
  have HB1 := Lib.hid hb1
  have HS1 := Lib.hid hs1
  clear hb1 hz1 hs1
  go_wp2_with fail
  refine (frac_any 50 12 (by omega) (by omega) (by omega) (by omega) _ a1 n1 cap1 _ HS1.out).mono ?_
  rintro e w2 ⟨X, d, hx, rfl, hs2, he2⟩
  have HS2 := Lib.hid hs2
  have HB2 := Lib.hid (HB1.out.trans (he2.below (Nat.le_refl _) HB1.out.size))
  have g1 := hx.2.2.2.2
  have HG1 := Lib.hid g1
  have hX0 := hx.1
  have hX1 := hx.2.1
  have hd0 := hx.2.2.1
  have hd1 := hx.2.2.2.1
  clear hs2 he2 hx g1
  go_wp2_with fail
  refine (frac_any 50 12 (by omega) (by omega) (by omega) (by omega) _ a1 n1 cap1 _ HS2.out).mono ?_
  rintro e w3 ⟨Y, q, hy, rfl, hs3, he3⟩
  have HS3 := Lib.hid hs3
  have HB3 := Lib.hid (HB2.out.trans (he3.below (Nat.le_refl _) HB2.out.size))
  have g2 := hy.2.2.2.2
  have HG2 := Lib.hid g2
  have hY0 := hy.1
  have hY1 := hy.2.1
  have hq0 := hy.2.2.1
  have hq1 := hy.2.2.2.1
  clear hs3 he3 hy g2
  go_wp2_with fail
  refine (n_any 2 (by omega) (by omega) _ a1 n1 cap1 _ (HS3.out.under (((Below.refl _ _).alloc (Nat.le_refl _) _).alloc (by simp) _))).mono ?_
  rintro e w4 ⟨r, hr, rfl, hs4, he4⟩
  have hsz : W.heap.size < w3.heap.size := HS3.out.lt
  have HE4 := Lib.hid he4
  have z4 := he4.size
  simp at z4
  clear hs4 he4
  have ca0 : w4.cell? ⟨w3.heap.size, 0, none⟩ = some (.int .i64 X) := (HE4.out.cell (p := ⟨w3.heap.size, 0, none⟩) (Nat.ne_of_gt hsz)).trans (by go_simp)
  have ca1 : w4.cell? ⟨w3.heap.size, 1, none⟩ = some (.int .i64 d) := (HE4.out.cell (p := ⟨w3.heap.size, 1, none⟩) (Nat.ne_of_gt hsz)).trans (by go_simp)
  have cb0 : w4.cell? ⟨w3.heap.size + 1, 0, none⟩ = some (.int .i64 Y) := (HE4.out.cell (p := ⟨w3.heap.size + 1, 0, none⟩) (Nat.ne_of_gt (Nat.lt_succ_of_lt hsz))).trans (by go_simp)
  have cb1 : w4.cell? ⟨w3.heap.size + 1, 1, none⟩ = some (.int .i64 q) := (HE4.out.cell (p := ⟨w3.heap.size + 1, 1, none⟩) (Nat.ne_of_gt (Nat.lt_succ_of_lt hsz))).trans (by go_simp)
  have fa0 : w4.frozen? ⟨w3.heap.size, 0, none⟩ = false := (HE4.out.frozen (p := ⟨w3.heap.size, 0, none⟩) (Nat.ne_of_gt hsz)).trans (by go_simp)
  have HB4 : Hid (Below W.heap.size W w4) := Lib.hid (((HB3.out.alloc HB3.out.size _).alloc (by have := HB3.out.size; simp; omega) _).trans (HE4.out.below (Nat.le_refl _)))
  go_upto_if 19 with fail
  go_cut [] (fun wx => ∃ x : Int, (x = X ∨ x = -X) ∧ wx.heap.size = w4.heap.size ∧ wx.cell? ⟨w3.heap.size, 0, none⟩ = some (.int .i64 x) ∧ wx.cell? ⟨w3.heap.size, 1, none⟩ = some (.int .i64 d) ∧ wx.cell? ⟨w3.heap.size + 1, 0, none⟩ = some (.int .i64 Y) ∧ wx.cell? ⟨w3.heap.size + 1, 1, none⟩ = some (.int .i64 q) ∧ Hid (Below W.heap.size W wx))
  case first =>
    by_cases h0 : r = 0
    · have hb0 : (r == 0) = true := by simpa using h0
      subst h0
      go_wp2_with fail
      go_meet
      exact ⟨-X, Or.inr rfl, by simp [World.setCell], by go_simp, by go_simp, by go_simp, by go_simp, HB4.out.setCell (Nat.le_of_lt hsz) _⟩
    · have hb0 : (r == 0) = false := by simpa using h0
      go_wp2_with fail
      go_meet
      exact ⟨X, Or.inl rfl, rfl, ca0, ca1, cb0, cb1, HB4⟩
  case rest =>
    obtain ⟨x, hxx, hzc, e1, e2, e3, e4, HBc⟩ := hcut
    clear ca0 ca1 cb0 cb1 fa0
    obtain ⟨wm, rfl⟩ : ∃ u : World, u = wc := ⟨_, rfl⟩
    have zc : w3.heap.size + 1 < wm.heap.size := by omega
    have zc' : w3.heap.size < wm.heap.size := by omega
    clear hzc
    have bx : -600 ≤ x ∧ x ≤ 600 := by omega
    have HX := Lib.hid hxx
    clear hxx
    go_upto_region 5 with fail
    go_cut [6, 7] (fun s6 s7 wx => s6 = .int .i64 (floorF x d) ∧ s7 = .int .i64 (ceilF x d) ∧ Hid (Below wm.heap.size wm wx))
    case first =>
      go_region_held3 (fun w' => w'.cell? ⟨w3.heap.size, 0, none⟩ = some (.int .i64 x) ∧ w'.cell? ⟨w3.heap.size, 1, none⟩ = some (.int .i64 d) ∧ Hid (Below wm.heap.size wm w')) (first | exact ⟨e1, e2, Below.refl _ _⟩ | exact ⟨e1, e2, (Below.refl _ _).drew⟩ | exact keep2 (by assumption) (by assumption) zc')
        (first | (go_at_call 20; refine (floor_all x d _).mono ?_; rintro e w' ⟨rfl, hb⟩) | (go_at_call 22; refine (ceil_all x d ⟨by omega, by omega⟩ _).mono ?_; rintro e w' ⟨rfl, hb⟩))
      go_wp2_with fail
      go_meet
      rename_i hh
      exact ⟨rfl, rfl, hh.2.2⟩
    case rest =>
      obtain ⟨wv, rfl⟩ : ∃ u : World, u = wc := ⟨_, rfl⟩
      obtain ⟨rfl, rfl, HBv⟩ := hcut
      have hg : Nat.gcd x.natAbs d.natAbs = 1 := by
        rcases HX.out with h | h
        · rw [h]; exact HG1.out
        · rw [h, Int.natAbs_neg]; exact HG1.out
      have okx : okF x d = true := okF_of x d hd0 (by omega) (by omega) hg
      have oky : okF Y q = true := okF_of Y q hq0 (by omega) (by omega) HG2.out
      obtain ⟨r1, r2, r3, r4⟩ := rounds x d okx
      have fb := floorF_bd x d
      have cb := ceilF_bd x d
      generalize floorF x d = f at *
      generalize ceilF x d = c at *
      have p1 := mul_bd2 x q 600 12 bx (by omega)
      have p2 := mul_bd2 Y d 600 12 (by omega) (by omega)
      have p3 := mul_bd2 d q 12 12 (by omega) (by omega)
      have p4 := Int.mul_pos (show 0 < d by omega) (show 0 < q by omega)
      have p5 := mul_bd f d fb (by omega)
      have p6 := mul_bd c d cb (by omega)
      obtain ⟨sn, sd, hnew, _, _, hneg, hzero, _, _⟩ := newF_small (x * q - Y * d) (d * q) (by omega) (by omega) (by omega)
      obtain ⟨s1, s2, s3⟩ := compareF_sign x d Y q okx oky
      have HN := Lib.hid hnew
      have HOX := Lib.hid okx
      have HOY := Lib.hid oky
      have R4 := Lib.hid r4
      have hc1 := (bcell HBv.out).1
      have zv := HBv.out.size
      have z1 : w3.heap.size < wv.heap.size := by omega
      have z2 : w3.heap.size + 1 < wv.heap.size := by omega
      clear hnew okx oky hg r4 zv
      go_wp2_with fail
      refine (sub_yes x d Y q HOX.out HOY.out _).mono ?_
      rintro e w5 ⟨he, hb5⟩
      rw [HN.out] at he
      subst he
      obtain ⟨hc5, hf5⟩ := bcell hb5
      have z5 : wv.heap.size ≤ w5.heap.size := hb5.size
      obtain ⟨l1, l2, l3⟩ := lt3 (show w3.heap.size < w5.heap.size by omega)
      obtain ⟨l4, l5, l6⟩ := lt3 (show w3.heap.size + 1 < w5.heap.size by omega)
      have HB5 : Hid (Below W.heap.size W (w5.alloc (.cells #[.int .i64 sn, .int .i64 sd] 23))) := Lib.hid (((HBc.out.trans (HBv.out.mono HBc.out.size)).trans (hb5.mono (by have := HBc.out.size; have := HBv.out.size; omega))).alloc (by have := HBc.out.size; have := HBv.out.size; omega) _)
      rcases Int.lt_trichotomy (x * q) (Y * d) with hs | hs | hs
      · have HC := Lib.hid (s1 hs)
        have hsn : sn < 0 := hneg.2 (by omega)
        clear s1 s2 s3 hneg hzero hs
        by_cases hd : d = 1
        · have q1 : (d == 1) = true := by simpa using hd
          have q2 : (c == f) = true := by simpa using R4.out.2 hd
          clear hd
          go_wp2_with fail
          refine (compare_all x d Y q _).mono ?_
          rintro e w6 ⟨he, hb6⟩
          rw [HC.out] at he
          subst he
          have HB6 := Lib.hid (HB5.out.trans (hb6.mono HB5.out.size))
          go_wp2_with fail
          refine (awake_all _ (H0.out.below HB6.out)).mono ?_
          rintro e w7 ⟨rfl, hb7⟩
          go_wp2_with fail
          go_ret
          exact ⟨rfl, HB6.out.trans (hb7.mono HB6.out.size)⟩
        · have q1 : (d == 1) = false := by simpa using hd
          have q2 : (c == f) = false := by
            rw [beq_eq_false_iff_ne]; exact fun h => hd (R4.out.1 h)
          clear hd
          go_wp2_with fail
          refine (compare_all x d Y q _).mono ?_
          rintro e w6 ⟨he, hb6⟩
          rw [HC.out] at he
          subst he
          have HB6 := Lib.hid (HB5.out.trans (hb6.mono HB5.out.size))
          go_wp2_with fail
          refine (awake_all _ (H0.out.below HB6.out)).mono ?_
          rintro e w7 ⟨rfl, hb7⟩
          go_wp2_with fail
          go_ret
          exact ⟨rfl, HB6.out.trans (hb7.mono HB6.out.size)⟩
      · have HC := Lib.hid (s2 hs)
        obtain rfl : sn = 0 := hzero.2 (by omega)
        clear s1 s2 s3 hneg hzero hs
        by_cases hd : d = 1
        · have q1 : (d == 1) = true := by simpa using hd
          have q2 : (c == f) = true := by simpa using R4.out.2 hd
          clear hd
          go_wp2_with fail
          refine (compare_all x d Y q _).mono ?_
          rintro e w6 ⟨he, hb6⟩
          rw [HC.out] at he
          subst he
          have HB6 := Lib.hid (HB5.out.trans (hb6.mono HB5.out.size))
          go_wp2_with fail
          refine (awake_all _ (H0.out.below HB6.out)).mono ?_
          rintro e w7 ⟨rfl, hb7⟩
          go_wp2_with fail
          go_ret
          exact ⟨rfl, HB6.out.trans (hb7.mono HB6.out.size)⟩
        · have q1 : (d == 1) = false := by simpa using hd
          have q2 : (c == f) = false := by
            rw [beq_eq_false_iff_ne]; exact fun h => hd (R4.out.1 h)
          clear hd
          go_wp2_with fail
          refine (compare_all x d Y q _).mono ?_
          rintro e w6 ⟨he, hb6⟩
          rw [HC.out] at he
          subst he
          have HB6 := Lib.hid (HB5.out.trans (hb6.mono HB5.out.size))
          go_wp2_with fail
          refine (awake_all _ (H0.out.below HB6.out)).mono ?_
          rintro e w7 ⟨rfl, hb7⟩
          go_wp2_with fail
          go_ret
          exact ⟨rfl, HB6.out.trans (hb7.mono HB6.out.size)⟩
      · have HC := Lib.hid (s3 hs)
        have hsn : 0 < sn := by
          have h1 : ¬ sn < 0 := fun h => by have := hneg.1 h; omega
          have h2 : ¬ sn = 0 := fun h => by have := hzero.1 h; omega
          omega
        clear s1 s2 s3 hneg hzero hs
        by_cases hd : d = 1
        · have q1 : (d == 1) = true := by simpa using hd
          have q2 : (c == f) = true := by simpa using R4.out.2 hd
          clear hd
          go_wp2_with fail
          refine (compare_all x d Y q _).mono ?_
          rintro e w6 ⟨he, hb6⟩
          rw [HC.out] at he
          subst he
          have HB6 := Lib.hid (HB5.out.trans (hb6.mono HB5.out.size))
          go_wp2_with fail
          refine (awake_all _ (H0.out.below HB6.out)).mono ?_
          rintro e w7 ⟨rfl, hb7⟩
          go_wp2_with fail
          go_ret
          exact ⟨rfl, HB6.out.trans (hb7.mono HB6.out.size)⟩
        · have q1 : (d == 1) = false := by simpa using hd
          have q2 : (c == f) = false := by
            rw [beq_eq_false_iff_ne]; exact fun h => hd (R4.out.1 h)
          clear hd
          go_wp2_with fail
          refine (compare_all x d Y q _).mono ?_
          rintro e w6 ⟨he, hb6⟩
          rw [HC.out] at he
          subst he
          have HB6 := Lib.hid (HB5.out.trans (hb6.mono HB5.out.size))
          go_wp2_with fail
          refine (awake_all _ (H0.out.below HB6.out)).mono ?_
          rintro e w7 ⟨rfl, hb7⟩
          go_wp2_with fail
          go_ret
          exact ⟨rfl, HB6.out.trans (hb7.mono HB6.out.size)⟩

end Go.Proofs.YtkdpglpdcjhhkaaDoor
