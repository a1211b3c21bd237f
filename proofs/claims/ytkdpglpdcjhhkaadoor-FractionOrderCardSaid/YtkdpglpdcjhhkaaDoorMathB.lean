/- Plain arithmetic of fractions: what the laws say. By the verifier's side. -/
import Derived.Test.YtkdpglpdcjhhkaaDoorFracB
namespace Go.Proofs.YtkdpglpdcjhhkaaDoor

/-- What New gives for small numbers. -/
theorem newF_small (num den : Int) (h1 : 1 ≤ den) (h2 : den ≤ 1073741824) (h3 : -1073741824 ≤ num ∧ num ≤ 1073741824) :
    ∃ sn sd, newF num den = (sn, sd, 0) ∧ okF sn sd = true ∧ sn * den = num * sd ∧ (sn < 0 ↔ num < 0) ∧ (sn = 0 ↔ num = 0) ∧ sn.natAbs ≤ num.natAbs ∧ sd ≤ den := by
  obtain ⟨D, hD⟩ := Int.eq_ofNat_of_zero_le (show 0 ≤ den by omega)
  obtain ⟨N, hN⟩ : ∃ N, num.natAbs = N := ⟨_, rfl⟩
  obtain ⟨g, hg⟩ : ∃ g, Nat.gcd N D = g := ⟨_, rfl⟩
  have hDn : den.natAbs = D := by omega
  have hD0 : 0 < D := by omega
  have hg0 : 0 < g := by rw [← hg]; exact Nat.gcd_pos_of_pos_right N hD0
  have hgN : g ∣ N := by rw [← hg]; exact Nat.gcd_dvd_left N D
  have hgD : g ∣ D := by rw [← hg]; exact Nat.gcd_dvd_right N D
  obtain ⟨p, hp⟩ := hgN
  obtain ⟨q, hq⟩ := hgD
  have eN : N / g = p := by rw [hp, Nat.mul_div_cancel_left _ hg0]
  have eD : D / g = q := by rw [hq, Nat.mul_div_cancel_left _ hg0]
  have hq0 : 0 < q := by
    rcases Nat.eq_zero_or_pos q with h | h
    · subst h; omega
    · exact h
  have hpN : p ≤ N := by rw [← eN]; exact Nat.div_le_self _ _
  have hqD : q ≤ D := by rw [← eD]; exact Nat.div_le_self _ _
  have hpq : Nat.gcd p q = 1 := by
    have h := Nat.gcd_div (k := g) ⟨p, hp⟩ ⟨q, hq⟩
    rw [eN, eD, hg, Nat.div_self hg0] at h
    exact h
  have hfit := newF_fit (num := num) (den := den) (n := N) (d := D) (g := g) (by omega) hN hDn hg (by rw [eN]; omega) (by rw [eD]; omega)
  rw [eN, eD] at hfit
  have d2 : decide (den < 0) = false := by simp; omega
  have hpp : p = 0 ↔ N = 0 := by
    constructor
    · intro h; rw [hp, h]; simp
    · intro h
      rw [h] at hp
      rcases Nat.mul_eq_zero.1 hp.symm with h' | h'
      · omega
      · exact h'
  by_cases s : num < 0
  · rw [if_neg (by rw [d2]; simp [s])] at hfit
    refine ⟨_, _, hfit, ?_, ?_, ?_, ?_, by omega, by omega⟩
    · rw [okF_iff]
      refine ⟨by omega, by omega, by omega, by omega, ?_⟩
      rw [Int.natAbs_neg]; exact hpq
    · have e1 : num = -((g * p : Nat) : Int) := by omega
      have e2 : den = ((g * q : Nat) : Int) := by omega
      rw [e1, e2]
      push_cast
      rw [Int.neg_mul, Int.neg_mul, Int.mul_assoc, Int.mul_left_comm]
    · constructor
      · intro _; exact s
      · intro _; have : p ≠ 0 := fun h => by have := hpp.1 h; omega
        omega
    · constructor
      · intro h; have := hpp.1 (by omega); omega
      · intro h; omega
  · rw [if_pos (by rw [d2]; simp; omega)] at hfit
    refine ⟨_, _, hfit, ?_, ?_, ?_, ?_, by omega, by omega⟩
    · rw [okF_iff]
      exact ⟨by omega, by omega, by omega, by omega, hpq⟩
    · have e1 : num = ((g * p : Nat) : Int) := by omega
      have e2 : den = ((g * q : Nat) : Int) := by omega
      rw [e1, e2]
      push_cast
      rw [Int.mul_assoc, Int.mul_left_comm]
    · constructor
      · intro h; omega
      · intro h; omega
    · constructor
      · intro h; have := hpp.1 (by omega); omega
      · intro h; have := hpp.2 (by omega); omega

/-- The integers around a fraction. -/
theorem rounds (x d : Int) (h : okF x d = true) : floorF x d * d ≤ x ∧ x ≤ ceilF x d * d ∧ ceilF x d - floorF x d ≤ 1 ∧ (ceilF x d = floorF x d ↔ d = 1) := by
  have hb := (okF_iff x d).1 h
  have hd : 0 < d := by omega
  unfold floorF ceilF
  rw [if_pos h, if_pos h]
  have e1 := Int.emod_add_mul_ediv x d
  have e2 := Int.emod_add_mul_ediv (-x) d
  have a1 := Int.emod_nonneg x (show d ≠ 0 by omega)
  have a2 := Int.emod_nonneg (-x) (show d ≠ 0 by omega)
  have b1 := Int.emod_lt_of_pos x hd
  have b2 := Int.emod_lt_of_pos (-x) hd
  rw [Int.neg_mul, Int.mul_comm (x / d) d, Int.mul_comm (-x / d) d]
  have e3 : d * (-(-x / d) - x / d) = x % d + (-x) % d := by rw [Int.mul_sub, Int.mul_neg]; omega
  have up : -(-x / d) - x / d < 2 := by
    rcases Int.lt_or_le (-(-x / d) - x / d) 2 with h' | h'
    · exact h'
    · have := Int.mul_le_mul_of_nonneg_left h' (Int.le_of_lt hd); omega
  refine ⟨by omega, by omega, by omega, ?_⟩
  constructor
  · intro h'
    have e4 : -(-x / d) - x / d = 0 := by omega
    rw [e4] at e3
    have e5 : x % d = 0 := by omega
    have e6 : d ∣ x := Int.dvd_of_emod_eq_zero e5
    have e7 : d.natAbs ∣ x.natAbs := Int.natAbs_dvd_natAbs.2 e6
    have e8 : Nat.gcd x.natAbs d.natAbs = d.natAbs := Nat.gcd_eq_right e7
    rw [hb.2.2.2.2] at e8
    omega
  · intro h'
    subst h'
    simp

theorem okF_of (x d : Int) (h1 : 1 ≤ d) (h2 : d ≤ 1073741824) (h3 : -1073741824 ≤ x ∧ x ≤ 1073741824) (h4 : Nat.gcd x.natAbs d.natAbs = 1) : okF x d = true := by
  rw [okF_iff]; exact ⟨h1, h2, h3.1, h3.2, h4⟩

theorem mul_bd2 (x y A B : Int) (hx : -A ≤ x ∧ x ≤ A) (hy : -B ≤ y ∧ y ≤ B) : -(A * B) ≤ x * y ∧ x * y ≤ A * B := by
  have h1 : (x * y).natAbs = x.natAbs * y.natAbs := Int.natAbs_mul x y
  have h2 : x.natAbs * y.natAbs ≤ A.natAbs * B.natAbs := Nat.mul_le_mul (by omega) (by omega)
  have h3 : (A * B).natAbs = A.natAbs * B.natAbs := Int.natAbs_mul A B
  have h4 : 0 ≤ A * B := Int.mul_nonneg (by omega) (by omega)
  omega

theorem ceilF_bd (n d : Int) : -1073741824 ≤ ceilF n d ∧ ceilF n d ≤ 1073741824 := by
  have h := floorF_bd (-n) d
  have e : ceilF n d = -floorF (-n) d := by
    unfold ceilF floorF
    rw [okF_neg]
    split
    · rfl
    · rfl
  omega

/-- Compare by cross products, for valid fractions. -/
theorem compareF_sign (x d y q : Int) (h1 : okF x d = true) (h2 : okF y q = true) :
    (x * q < y * d → compareF x d y q = -1) ∧ (x * q = y * d → compareF x d y q = 0) ∧ (y * d < x * q → compareF x d y q = 1) := by
  unfold compareF Lib.compareInt
  rw [if_pos (by rw [h1, h2]; rfl)]
  refine ⟨fun h => ?_, fun h => ?_, fun h => ?_⟩
  · rw [if_pos h]
  · rw [if_neg (by omega), if_neg (by omega)]
  · rw [if_neg (by omega), if_pos h]

/-- Two fractions in lowest terms that are equal as numbers are the same. -/
theorem low_unique {a b c d : Int} (h1 : okF a b = true) (h2 : okF c d = true) (h : a * d = c * b) : a = c ∧ b = d := by
  rw [okF_iff] at h1 h2
  obtain ⟨p1, _, _, _, g1⟩ := h1
  obtain ⟨p2, _, _, _, g2⟩ := h2
  have hn : a.natAbs * d.natAbs = c.natAbs * b.natAbs := by rw [← Int.natAbs_mul, ← Int.natAbs_mul, h]
  have k1 : b.natAbs ∣ d.natAbs := by
    have : b.natAbs ∣ a.natAbs * d.natAbs := ⟨c.natAbs, by rw [hn, Nat.mul_comm]⟩
    exact Nat.Coprime.dvd_of_dvd_mul_left (show Nat.Coprime b.natAbs a.natAbs by rw [Nat.coprime_comm]; exact g1) this
  have k2 : d.natAbs ∣ b.natAbs := by
    have : d.natAbs ∣ c.natAbs * b.natAbs := ⟨a.natAbs, by rw [← hn, Nat.mul_comm]⟩
    exact Nat.Coprime.dvd_of_dvd_mul_left (show Nat.Coprime d.natAbs c.natAbs by rw [Nat.coprime_comm]; exact g2) this
  have e : b.natAbs = d.natAbs := Nat.dvd_antisymm k1 k2
  have e2 : b = d := by omega
  subst e2
  exact ⟨Int.eq_of_mul_eq_mul_right (by omega) h, rfl⟩

theorem cancel {a b k : Int} (hk : 0 < k) (h : a * k = b * k) : a = b := Int.eq_of_mul_eq_mul_right (by omega) h

theorem same_sign {A B K L : Int} (hK : 0 < K) (hL : 0 < L) (h : A * K = B * L) : (A < 0 ↔ B < 0) ∧ (A = 0 ↔ B = 0) := by
  rcases Int.lt_trichotomy A 0 with ha | ha | ha <;> rcases Int.lt_trichotomy B 0 with hb | hb | hb
  · exact ⟨⟨fun _ => hb, fun _ => ha⟩, by omega⟩
  · have := Int.mul_neg_of_neg_of_pos ha hK; rw [hb] at h; omega
  · have := Int.mul_neg_of_neg_of_pos ha hK; have := Int.mul_pos hb hL; omega
  · have := Int.mul_neg_of_neg_of_pos hb hL; rw [ha] at h; omega
  · exact ⟨by omega, by omega⟩
  · have := Int.mul_pos hb hL; rw [ha] at h; omega
  · have := Int.mul_pos ha hK; have := Int.mul_neg_of_neg_of_pos hb hL; omega
  · have := Int.mul_pos ha hK; rw [hb] at h; omega
  · exact ⟨by omega, by omega⟩

/-- Sub undoes Add. -/
theorem undo_add {a b c d x y z t : Int} (hd : 0 < d) (hy : 0 < y) (h1 : okF a b = true) (h2 : okF z t = true)
    (hx : x * (b * d) = (a * d + c * b) * y) (hz : z * (y * d) = (x * d - c * y) * t) : z = a ∧ t = b := by
  refine low_unique h2 h1 (cancel (Int.mul_pos hy hd) ?_)
  grind

/-- Div undoes Mul. -/
theorem undo_mul {a b c d p q z t : Int} (hq : 0 < q) (hc : 0 < c) (hd : 0 < d) (h1 : okF a b = true) (h2 : okF z t = true)
    (hp : p * (b * d) = (a * c) * q) (hz : z * (q * c) = (p * d) * t) : z = a ∧ t = b := by
  refine low_unique h2 h1 (cancel (k := q * c * d) (Int.mul_pos (Int.mul_pos hq hc) hd) ?_)
  grind

/-- Products distribute over sums. -/
theorem spread {an ad bn bd cn cd x xd u ud p pd q qd y yd : Int} (had : 0 < ad) (hbd : 0 < bd) (hcd : 0 < cd) (hxd : 0 < xd) (hpd : 0 < pd) (hqd : 0 < qd) (h1 : okF u ud = true) (h2 : okF y yd = true)
    (hx : x * (ad * bd) = (an * bd + bn * ad) * xd) (hu : u * (xd * cd) = (x * cn) * ud) (hp : p * (ad * cd) = (an * cn) * pd) (hq : q * (cd * bd) = (cn * bn) * qd)
    (hy : y * (pd * qd) = (p * qd + q * pd) * yd) : u = y ∧ ud = yd := by
  have e1 : u * (ad * bd * cd) = (an * bd + bn * ad) * cn * ud := cancel hxd (by grind)
  have e2 : y * (ad * bd * cd) = (an * bd + bn * ad) * cn * yd := by
    refine cancel (k := pd * qd * cd) (Int.mul_pos (Int.mul_pos hpd hqd) hcd) ?_
    have s1 : y * (ad * bd * cd) * (pd * qd * cd) = (y * (pd * qd)) * (ad * bd * cd * cd) := by grind
    rw [s1, hy]
    have s2 : (p * qd + q * pd) * yd * (ad * bd * cd * cd) = ((p * (ad * cd)) * (qd * bd * cd) + (q * (cd * bd)) * (pd * ad * cd)) * yd := by grind
    rw [s2, hp, hq]
    grind
  refine low_unique h1 h2 (cancel (k := ad * bd * cd) (Int.mul_pos (Int.mul_pos had hbd) hcd) ?_)
  grind

/-- A sum on both sides keeps the order. -/
theorem sums_keep {an ad bn bd cn cd p pd q qd : Int} (had : 0 < ad) (hbd : 0 < bd) (hcd : 0 < cd) (hpd : 0 < pd) (hqd : 0 < qd)
    (hp : p * (ad * cd) = (an * cd + cn * ad) * pd) (hq : q * (bd * cd) = (bn * cd + cn * bd) * qd) :
    (p * qd - q * pd < 0 ↔ an * bd - bn * ad < 0) ∧ (p * qd - q * pd = 0 ↔ an * bd - bn * ad = 0) := by
  refine same_sign (K := ad * bd * cd) (L := cd * pd * qd) (Int.mul_pos (Int.mul_pos had hbd) hcd) (Int.mul_pos (Int.mul_pos hcd hpd) hqd) ?_
  have s1 : (p * qd - q * pd) * (ad * bd * cd) = (p * (ad * cd)) * (qd * bd) - (q * (bd * cd)) * (pd * ad) := by grind
  rw [s1, hp, hq]
  grind

theorem le_trans3 {an ad bn bd cn cd : Int} (had : 0 < ad) (hbd : 0 < bd) (hcd : 0 < cd) (h1 : an * bd ≤ bn * ad) (h2 : bn * cd ≤ cn * bd) : an * cd ≤ cn * ad := by
  have e1 : an * bd * cd ≤ bn * ad * cd := Int.mul_le_mul_of_nonneg_right h1 (Int.le_of_lt hcd)
  have e2 : bn * cd * ad ≤ cn * bd * ad := Int.mul_le_mul_of_nonneg_right h2 (Int.le_of_lt had)
  have e3 : (an * cd) * bd ≤ (cn * ad) * bd := by grind
  exact Int.le_of_mul_le_mul_right e3 hbd

end Go.Proofs.YtkdpglpdcjhhkaaDoor
