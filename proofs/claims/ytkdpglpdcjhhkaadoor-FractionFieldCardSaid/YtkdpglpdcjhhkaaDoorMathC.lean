/- Plain arithmetic for FractionField and FractionOrder. By the verifier's side. -/
import Derived.Test.YtkdpglpdcjhhkaaDoorMathB
namespace Go.Proofs.YtkdpglpdcjhhkaaDoor

/-- newF_small with plain bounds. -/
theorem newF_bd (num den M D : Int) (h1 : 1 ≤ den) (h2 : den ≤ D) (h3 : -M ≤ num ∧ num ≤ M) (hD : D ≤ 1073741824) (hM : M ≤ 1073741824) :
    ∃ sn sd, newF num den = (sn, sd, 0) ∧ okF sn sd = true ∧ sn * den = num * sd ∧ 1 ≤ sd ∧ sd ≤ D ∧ -M ≤ sn ∧ sn ≤ M := by
  obtain ⟨sn, sd, e1, e2, e3, _, _, e4, e5⟩ := newF_small num den h1 (by omega) (by omega)
  have h := (okF_iff sn sd).1 e2
  exact ⟨sn, sd, e1, e2, e3, h.1, by omega, by omega, by omega⟩

theorem field_math (A dA B dB C dC : Int) (hA : okF A dA = true) (bA : -81 ≤ A ∧ A ≤ 81) (bB : -81 ≤ B ∧ B ≤ 81) (bC : 0 ≤ C ∧ C ≤ 81)
    (a1 : 1 ≤ dA) (a2 : dA ≤ 9) (b1 : 1 ≤ dB) (b2 : dB ≤ 9) (c1 : 1 ≤ dC) (c2 : dC ≤ 9) :
    ∃ xn xd un ud pn pd qn qd, okF xn xd = true ∧ okF pn pd = true ∧ okF qn qd = true ∧
      newF (A * dB + B * dA) (dA * dB) = (xn, xd, 0) ∧ newF (B * dA + A * dB) (dB * dA) = (xn, xd, 0) ∧ newF (xn * dB - B * xd) (xd * dB) = (A, dA, 0) ∧
      newF (xn * C) (xd * dC) = (un, ud, 0) ∧ newF (A * C) (dA * dC) = (pn, pd, 0) ∧ newF (C * B) (dC * dB) = (qn, qd, 0) ∧
      newF (pn * qd + qn * pd) (pd * qd) = (un, ud, 0) ∧ (¬ C = 0 → newF (pn * dC) (pd * C) = (A, dA, 0)) := by
  have p1 := mul_bd2 A dB 81 9 bA (by omega)
  have p2 := mul_bd2 B dA 81 9 bB (by omega)
  have p3 := mul_bd2 dA dB 9 9 (by omega) (by omega)
  have p4 := Int.mul_pos (show 0 < dA by omega) (show 0 < dB by omega)
  obtain ⟨xn, xd, N1, okX, m1, x1, x2, x3, x4⟩ := newF_bd (A * dB + B * dA) (dA * dB) 1458 81 (by omega) (by omega) (by omega) (by omega) (by omega)
  have p5 := mul_bd2 xn dB 1458 9 (by omega) (by omega)
  have p6 := mul_bd2 B xd 81 81 bB (by omega)
  have p7 := mul_bd2 xd dB 81 9 (by omega) (by omega)
  have p8 := Int.mul_pos (show 0 < xd by omega) (show 0 < dB by omega)
  obtain ⟨zn, zd, N3, okZ, m3, _⟩ := newF_bd (xn * dB - B * xd) (xd * dB) 100000 729 (by omega) (by omega) (by omega) (by omega) (by omega)
  obtain ⟨rfl, rfl⟩ := undo_add (by omega) (by omega) hA okZ m1 m3
  have p9 := mul_bd2 xn C 1458 81 (by omega) (by omega)
  have p10 := mul_bd2 xd dC 81 9 (by omega) (by omega)
  have p11 := Int.mul_pos (show 0 < xd by omega) (show 0 < dC by omega)
  obtain ⟨un, ud, N4, okU, m4, u1, u2, u3, u4⟩ := newF_bd (xn * C) (xd * dC) 200000 729 (by omega) (by omega) (by omega) (by omega) (by omega)
  have p12 := mul_bd2 zn C 81 81 bA (by omega)
  have p13 := mul_bd2 zd dC 9 9 (by omega) (by omega)
  have p14 := Int.mul_pos (show 0 < zd by omega) (show 0 < dC by omega)
  obtain ⟨pn, pd, N5, okP, m5, q1, q2, q3, q4⟩ := newF_bd (zn * C) (zd * dC) 6561 81 (by omega) (by omega) (by omega) (by omega) (by omega)
  have p15 := mul_bd2 C B 81 81 (by omega) bB
  have p16 := mul_bd2 dC dB 9 9 (by omega) (by omega)
  have p17 := Int.mul_pos (show 0 < dC by omega) (show 0 < dB by omega)
  obtain ⟨qn, qd, N6, okQ, m6, r1, r2, r3, r4⟩ := newF_bd (C * B) (dC * dB) 6561 81 (by omega) (by omega) (by omega) (by omega) (by omega)
  have p18 := mul_bd2 pn qd 6561 81 (by omega) (by omega)
  have p19 := mul_bd2 qn pd 6561 81 (by omega) (by omega)
  have p20 := mul_bd2 pd qd 81 81 (by omega) (by omega)
  have p21 := Int.mul_pos (show 0 < pd by omega) (show 0 < qd by omega)
  obtain ⟨yn, yd, N7, okY, m7, _⟩ := newF_bd (pn * qd + qn * pd) (pd * qd) 2000000 6561 (by omega) (by omega) (by omega) (by omega) (by omega)
  obtain ⟨rfl, rfl⟩ := spread (by omega) (by omega) (by omega) (by omega) (by omega) (by omega) okU okY m1 m4 m5 m6 m7
  refine ⟨xn, xd, un, ud, pn, pd, qn, qd, okX, okP, okQ, N1, ?_, N3, N4, N5, N6, N7, fun hC => ?_⟩
  · rw [Int.add_comm, Int.mul_comm dB]; exact N1
  · have p22 := mul_bd2 pn dC 6561 9 (by omega) (by omega)
    have p23 := mul_bd2 pd C 81 81 (by omega) (by omega)
    have p24 := Int.mul_pos (show 0 < pd by omega) (show 0 < C by omega)
    obtain ⟨vn, vd, N8, okV, m8, _⟩ := newF_bd (pn * dC) (pd * C) 59049 6561 (by omega) (by omega) (by omega) (by omega) (by omega)
    obtain ⟨rfl, rfl⟩ := undo_mul (by omega) (by omega) (by omega) hA okV m5 m8
    exact N8

theorem order_math (A dA B dB C dC : Int) (hA : okF A dA = true) (hB : okF B dB = true) (hC : okF C dC = true) (bA : -180 ≤ A ∧ A ≤ 180) (bB : 0 ≤ B ∧ B ≤ 180) (bC : 0 ≤ C ∧ C ≤ 180)
    (a1 : 1 ≤ dA) (a2 : dA ≤ 9) (b1 : 1 ≤ dB) (b2 : dB ≤ 9) (c1 : 1 ≤ dC) (c2 : dC ≤ 9) :
    ∃ pn pd qn qd, newF (A * dC + C * dA) (dA * dC) = (pn, pd, 0) ∧ newF (B * dC + C * dB) (dB * dC) = (qn, qd, 0) ∧ compareF pn pd qn qd = compareF A dA B dB ∧
      compareF A dA B dB = -compareF B dB A dA ∧ (compareF A dA B dB = 0 ↔ A = B ∧ dA = dB) ∧ (0 < compareF A dA B dB ∨ 0 < compareF B dB C dC ∨ compareF A dA C dC ≤ 0) := by
  have p1 := mul_bd2 A dC 180 9 bA (by omega)
  have p2 := mul_bd2 C dA 180 9 (by omega) (by omega)
  have p3 := mul_bd2 dA dC 9 9 (by omega) (by omega)
  have p4 := Int.mul_pos (show 0 < dA by omega) (show 0 < dC by omega)
  obtain ⟨pn, pd, N1, okP, m1, x1, x2, x3, x4⟩ := newF_bd (A * dC + C * dA) (dA * dC) 4000 81 (by omega) (by omega) (by omega) (by omega) (by omega)
  have p5 := mul_bd2 B dC 180 9 (by omega) (by omega)
  have p6 := mul_bd2 C dB 180 9 (by omega) (by omega)
  have p7 := mul_bd2 dB dC 9 9 (by omega) (by omega)
  have p8 := Int.mul_pos (show 0 < dB by omega) (show 0 < dC by omega)
  obtain ⟨qn, qd, N2, okQ, m2, y1, y2, y3, y4⟩ := newF_bd (B * dC + C * dB) (dB * dC) 4000 81 (by omega) (by omega) (by omega) (by omega) (by omega)
  obtain ⟨s1, s2⟩ := sums_keep (an := A) (bn := B) (cn := C) (by omega) (by omega) (by omega) (by omega) (by omega) m1 m2
  obtain ⟨f1, f2, f3⟩ := compareF_sign A dA B dB hA hB
  obtain ⟨g1, g2, g3⟩ := compareF_sign B dB A dA hB hA
  obtain ⟨h1, h2, h3⟩ := compareF_sign pn pd qn qd okP okQ
  obtain ⟨i1, i2, i3⟩ := compareF_sign B dB C dC hB hC
  obtain ⟨j1, j2, j3⟩ := compareF_sign A dA C dC hA hC
  have low : A * dB = B * dA → A = B ∧ dA = dB := low_unique hA hB
  have tr : A * dB ≤ B * dA → B * dC ≤ C * dB → A * dC ≤ C * dA := le_trans3 (by omega) (by omega) (by omega)
  refine ⟨pn, pd, qn, qd, N1, N2, ?_, ?_, ?_, ?_⟩
  · rcases Int.lt_trichotomy (A * dB) (B * dA) with h | h | h
    · rw [f1 h, h1 (by have := s1.2 (by omega); omega)]
    · rw [f2 h, h2 (by have := s2.2 (by omega); omega)]
    · have n1 : ¬ (pn * qd - qn * pd < 0) := fun e => by have := s1.1 e; omega
      have n2 : ¬ (pn * qd - qn * pd = 0) := fun e => by have := s2.1 e; omega
      rw [f3 h, h3 (by omega)]
  · rcases Int.lt_trichotomy (A * dB) (B * dA) with h | h | h
    · rw [f1 h, g3 h]
    · rw [f2 h, g2 h.symm]; rfl
    · rw [f3 h, g1 h]; rfl
  · rcases Int.lt_trichotomy (A * dB) (B * dA) with h | h | h
    · rw [f1 h]
      exact ⟨fun e => by omega, fun ⟨e1, e2⟩ => by rw [e1, e2] at h; omega⟩
    · rw [f2 h]
      exact ⟨fun _ => low h, fun _ => rfl⟩
    · rw [f3 h]
      exact ⟨fun e => by omega, fun ⟨e1, e2⟩ => by rw [e1, e2] at h; omega⟩
  · rcases Int.lt_trichotomy (A * dB) (B * dA) with h | h | h
    · rcases Int.lt_trichotomy (B * dC) (C * dB) with k | k | k
      · right; right
        rcases Int.lt_trichotomy (A * dC) (C * dA) with l | l | l
        · rw [j1 l]; omega
        · rw [j2 l]; omega
        · have := tr (by omega) (by omega); omega
      · right; right
        rcases Int.lt_trichotomy (A * dC) (C * dA) with l | l | l
        · rw [j1 l]; omega
        · rw [j2 l]; omega
        · have := tr (by omega) (by omega); omega
      · right; left; rw [i3 k]; omega
    · rcases Int.lt_trichotomy (B * dC) (C * dB) with k | k | k
      · right; right
        rcases Int.lt_trichotomy (A * dC) (C * dA) with l | l | l
        · rw [j1 l]; omega
        · rw [j2 l]; omega
        · have := tr (by omega) (by omega); omega
      · right; right
        rcases Int.lt_trichotomy (A * dC) (C * dA) with l | l | l
        · rw [j1 l]; omega
        · rw [j2 l]; omega
        · have := tr (by omega) (by omega); omega
      · right; left; rw [i3 k]; omega
    · left; rw [f3 h]; omega

end Go.Proofs.YtkdpglpdcjhhkaaDoor
