/- The walk of OrderSlopes. By the verifier's side. -/
import Derived.Test.YtgdkjmmlgnmidaaOrdW
import Derived.Test.YtgdkjmmlgnmidaaZero
import Derived.Test.YtgdkjmmlgnmidaaFrS
namespace Go.Proofs.Ytgdkjmmlgnmidaa
open Go.RowKit
set_option linter.unusedSimpArgs false

theorem below_max (d : Nat → Int) (L : Nat) : ∃ M : Nat, ∀ r, r < L → d r ≤ M := by
  induction L with
  | zero => exact ⟨0, fun r hr => absurd hr (Nat.not_lt_zero _)⟩
  | succ L ih =>
    obtain ⟨M, hM⟩ := ih
    refine ⟨M + (d L).toNat, fun r hr => ?_⟩
    by_cases h : r = L
    · subst h; omega
    · have := hM r (by omega); omega
theorem set_down {d : Nat → Int} {S L : Nat} {c : Int} (hP : Per d S L c) (hL : 1 ≤ L) (hc : c < 0) : ∃ T : Nat, ∀ u, T ≤ u → d u ≤ 0 := by
  obtain ⟨M, hM⟩ := below_max (fun r => d (S + r)) L
  refine ⟨S + M * L, fun u hu => ?_⟩
  obtain ⟨r, j, hr, rfl⟩ := tick_split (S := S) hL (show S ≤ u by omega)
  rw [hP.to r j]
  have h1 := hM r hr
  have h2 : M ≤ j := by
    refine Classical.byContradiction fun hn => ?_
    have h3 : (j + 1) * L ≤ M * L := Nat.mul_le_mul_right L (by omega)
    rw [Nat.succ_mul] at h3
    omega
  have h4 : (j : Int) * c ≤ (j : Int) * (-1) := Int.mul_le_mul_of_nonneg_left (by omega) (by omega)
  have h1' : d (S + r) ≤ M := h1
  omega

/-- The slopes' order is that of the growth. -/
theorem slope_sign {x1 y1 x2 y2 p q inc jnc lp lq L : Int} (h1 : x1 * p = y1 * inc) (h2 : x2 * q = y2 * jnc) (hy1 : 1 ≤ y1) (hy2 : 1 ≤ y2) (hp : 1 ≤ p) (hq : 1 ≤ q) (hL : 1 ≤ L) (h3 : lp * p = L) (h4 : lq * q = L) :
    (x1 * y2 - x2 * y1 < 0 → lp * inc - lq * jnc < 0) ∧ (0 < x1 * y2 - x2 * y1 → 0 < lp * inc - lq * jnc) := by
  obtain ⟨K, hK⟩ : ∃ K, inc * q - jnc * p = K := ⟨_, rfl⟩
  obtain ⟨D, hD⟩ : ∃ D, x1 * y2 - x2 * y1 = D := ⟨_, rfl⟩
  obtain ⟨G, hG⟩ : ∃ G, lp * inc - lq * jnc = G := ⟨_, rfl⟩
  have e1 : D * (p * q) = (y1 * y2) * K := by
    rw [← hD, ← hK]
    have a1 : x1 * y2 * (p * q) = (x1 * p) * (y2 * q) := by grind
    have a2 : x2 * y1 * (p * q) = (x2 * q) * (y1 * p) := by grind
    rw [Int.sub_mul, a1, a2, h1, h2]
    grind
  have e2 : G * (p * q) = L * K := by
    rw [← hG, ← hK]
    have a1 : lp * inc * (p * q) = (lp * p) * (inc * q) := by grind
    have a2 : lq * jnc * (p * q) = (lq * q) * (jnc * p) := by grind
    rw [Int.sub_mul, a1, a2, h3, h4]
    grind
  have hpq : 0 < p * q := Int.mul_pos (by omega) (by omega)
  have hyy : 0 < y1 * y2 := Int.mul_pos (by omega) (by omega)
  have hL0 : 0 < L := by omega
  rw [hD, hG]
  constructor
  · intro h
    have b1 : D * (p * q) < 0 := Int.mul_neg_of_neg_of_pos h hpq
    have b2 : K < 0 := by
      refine Classical.byContradiction fun hn => ?_
      have := Int.mul_nonneg (Int.le_of_lt hyy) (show 0 ≤ K by omega)
      omega
    refine Classical.byContradiction fun hn => ?_
    have b3 := Int.mul_nonneg (show 0 ≤ G by omega) (Int.le_of_lt hpq)
    have b4 : L * K < 0 := Int.mul_neg_of_pos_of_neg hL0 b2
    omega
  · intro h
    have b1 : 0 < D * (p * q) := Int.mul_pos h hpq
    have b2 : 0 < K := by
      refine Classical.byContradiction fun hn => ?_
      have := Int.mul_nonpos_of_nonneg_of_nonpos (Int.le_of_lt hyy) (show K ≤ 0 by omega)
      omega
    refine Classical.byContradiction fun hn => ?_
    have b3 := Int.mul_nonpos_of_nonpos_of_nonneg (show G ≤ 0 by omega) (Int.le_of_lt hpq)
    have b4 : 0 < L * K := Int.mul_pos hL0 b2
    omega

theorem slopes_math {zs ys : List Int} {p q : Nat} {inc jnc : Int} (g : Good zs p inc) (k : Good ys q jnc) (hf : ¬ InfC zs) (hg : ¬ InfC ys) {x1 y1 x2 y2 : Int} (h1 : x1 * (p : Int) = y1 * inc) (h2 : x2 * (q : Int) = y2 * jnc) (hy1 : 1 ≤ y1) (hy2 : 1 ≤ y2)
    {t x : Int} {ok ex : Bool} (hs : SetP (dC zs p inc ys q jnc) t ok) (hx : ExcP (dC zs p inc ys q jnc) x ex) : (x1 * y2 - x2 * y1 < 0 → ok = true) ∧ (0 < x1 * y2 - x2 * y1 → ok = false ∧ ex = true) := by
  have hL := lcm_of g.p1 k.p1 (L := p / Nat.gcd p q * q) rfl
  generalize p / Nat.gcd p q * q = L at hL
  have hP := dC_per g k hL (show zs.length - p ≤ max (zs.length - p) (ys.length - q) by omega) (show ys.length - q ≤ max (zs.length - p) (ys.length - q) by omega)
  rw [growC_fin hf hg] at hP
  have e1 := hL.dp
  have e2 := hL.dq
  have hL1 := hL.one
  have hp1 := g.p1
  have hq1 := k.p1
  generalize L / p = lp at *
  generalize L / q = lq at *
  obtain ⟨s1, s2⟩ := slope_sign h1 h2 hy1 hy2 (show (1 : Int) ≤ p by omega) (show (1 : Int) ≤ q by omega) (show (1 : Int) ≤ L by omega) (show (lp : Int) * p = L by exact_mod_cast e1) (show (lq : Int) * q = L by exact_mod_cast e2)
  constructor
  · intro h
    obtain ⟨T, hT⟩ := set_down hP hL1 (s1 h)
    rcases hs with ⟨h, _⟩ | ⟨_, _, hn⟩
    · exact h
    · obtain ⟨u, hu, hpos⟩ := hn T
      have := hT u hu; omega
  · intro h
    have hu := set_up hP hL1 (s2 h)
    obtain ⟨rfl, rfl⟩ := hs.unique hu
    refine ⟨rfl, ?_⟩
    rcases hx with ⟨h, _⟩ | ⟨_, _, hn⟩
    · exact h
    · rcases hu with ⟨hh, _⟩ | ⟨_, _, hu⟩
      · cases hh
      · obtain ⟨v, _, hv⟩ := hu 0
        have := hn v; omega

set_option maxRecDepth 100000 in
set_option maxHeartbeats 6400000 in
theorem orderSlopes_walk (W : World) (a : Option Addr) (n cap : Nat) (hrow : RowAt W a n cap) :
    Calls Try.prog 7 #[.slice a n cap] W fun e w' => e = .returned (.bool true) ∧ Below W.heap.size W w' := by
  have HR := Lib.hid hrow
  clear hrow
  go_enter Try.func7, Try.ntmps7
  go_wp2_with fail
  refine (new_any a n cap _ HR.out).mono ?_
  rintro e w1 ⟨rfl, hb1, hz1, ra, rn, rc, hs1⟩
  have HB1 := Lib.hid hb1
  have HS1 := Lib.hid hs1
  have Z1 := Lib.hid hz1
  clear hb1 hz1 hs1
  go_wp2_with fail
  refine (zero_any 7 (by omega) (by omega) _ ra rn rc _ HS1.out).mono ?_
  rintro e w2 ⟨a1, n1, cap1, zs, p, inc, rfl, hs2, he2, hr2, hg2, hf2, _, hx2⟩
  have HG := Lib.hid (And.intro hg2 hf2)
  have HS2 := Lib.hid hs2
  have HR2 := Lib.hid hr2
  have HX2 := Lib.hid (show ∀ x, a1 = some x → ¬ x.block = W.heap.size from fun x hx => by have := hx2 x hx; have := Z1.out; omega)
  have HB2 := Lib.hid (HB1.out.trans (he2.below (Nat.le_refl _) HB1.out.size))
  clear hs2 he2 hr2 hg2 hf2 hx2
  go_wp2_with fail
  refine (zero_any 7 (by omega) (by omega) _ ra rn rc _ HS2.out).mono ?_
  rintro e w3 ⟨a2, n2, cap2, ys, q, jnc, rfl, hs3, he3, hr3, hg3, hf3, _, hx3⟩
  have HK := Lib.hid (And.intro hg3 hf3)
  have HB3 := Lib.hid ((HB2.out.trans (he3.below (Nat.le_refl _) HB2.out.size)).trans ((two_boxes w3 (.cells #[.slice a1 n1 cap1, .int .i64 p, .int .i64 inc] 24) (.cells #[.slice a2 n2 cap2, .int .i64 q, .int .i64 jnc] 24)).mono (HB2.out.trans (he3.below (Nat.le_refl _) HB2.out.size)).size))
  have T3 := Lib.hid (show Two ((w3.alloc (.cells #[.slice a1 n1 cap1, .int .i64 p, .int .i64 inc] 24)).alloc (.cells #[.slice a2 n2 cap2, .int .i64 q, .int .i64 jnc] 24)) w3.heap.size a1 n1 cap1 p inc zs (w3.heap.size + 1) a2 n2 cap2 q jnc ys from
    ⟨(Cur3.new w3 _ _ _ _).alloc _, ((HR2.out.apart he3 HX2.out).alloc _).alloc _, Cur3.new2 w3 _ _ _ _ _, (hr3.alloc _).alloc _⟩)
  clear hs3 he3 hr3 hg3 hf3 hx3
  go_wp2_with fail
  generalize (w3.alloc (.cells #[.slice a1 n1 cap1, .int .i64 p, .int .i64 inc] 24)).alloc (.cells #[.slice a2 n2 cap2, .int .i64 q, .int .i64 jnc] 24) = w4 at HB3 T3 ⊢
  obtain ⟨x1, y1, hn1, hxy1, hx10, hx11, hy10, hy11⟩ := newF_slope HG.out.1.p1 HG.out.1.p2 HG.out.1.i0 HG.out.1.i1
  obtain ⟨x2, y2, hn2, hxy2, hx20, hx21, hy20, hy21⟩ := newF_slope HK.out.1.p1 HK.out.1.p2 HK.out.1.i0 HK.out.1.i1
  have N1 := Lib.hid (And.intro hn1 hxy1)
  have N2 := Lib.hid (And.intro hn2 hxy2)
  clear hn1 hn2 hxy1 hxy2
  refine (slope_ok a1 n1 cap1 zs p inc HG.out.1 HG.out.2 x1 y1 N1.out.1 _ T3.out.rx).mono ?_
  rintro e w5 ⟨rfl, hb⟩
  have T5 := Lib.hid ((T3.out.under hb).under (box_below w5 (.cells #[.int .i64 x1, .int .i64 y1] 44)))
  have HB5 := Lib.hid ((HB3.out.trans (hb.mono HB3.out.size)).trans ((box_below w5 (.cells #[.int .i64 x1, .int .i64 y1] 44)).mono (HB3.out.trans (hb.mono HB3.out.size)).size))
  have X5 := Lib.hid (Box.new w5 x1 y1 44)
  obtain ⟨d0, d1, d2, g0, g1, g2⟩ := (T3.out.under hb).by'
  obtain ⟨l1, l2, l3, l4⟩ := lt5' (T3.out.under hb).by'.lt
  clear hb T3 HB3
  go_wp2_with fail
  clear d0 d1 d2 g0 g1 g2 l1 l2 l3 l4
  generalize w5.alloc (.cells #[.int .i64 x1, .int .i64 y1] 44) = w6 at T5 HB5 X5 ⊢
  refine (slope_ok a2 n2 cap2 ys q jnc HK.out.1 HK.out.2 x2 y2 N2.out.1 _ T5.out.ry).mono ?_
  rintro e w7 ⟨rfl, hb⟩
  have T7 := Lib.hid ((T5.out.under hb).under (box_below w7 (.cells #[.int .i64 x2, .int .i64 y2] 44)))
  have HB7 := Lib.hid ((HB5.out.trans (hb.mono HB5.out.size)).trans ((box_below w7 (.cells #[.int .i64 x2, .int .i64 y2] 44)).mono (HB5.out.trans (hb.mono HB5.out.size)).size))
  have X7 := Lib.hid ((X5.out.below hb).alloc (.cells #[.int .i64 x2, .int .i64 y2] 44))
  have Y7 := Lib.hid (Box.new w7 x2 y2 44)
  obtain ⟨c0, c1, c2, f0, f1, f2⟩ := (T5.out.under hb).bx
  obtain ⟨d0, d1, d2, g0, g1, g2⟩ := (T5.out.under hb).by'
  obtain ⟨l1, l2, l3, l4⟩ := lt5' (T5.out.under hb).by'.lt
  obtain ⟨m1, m2, m3, m4⟩ := lt5' (T5.out.under hb).bx.lt
  clear hb T5 HB5 X5
  go_wp2_with fail
  clear c0 c1 c2 f0 f1 f2 d0 d1 d2 g0 g1 g2 l1 l2 l3 l4 m1 m2 m3 m4
  generalize w7.alloc (.cells #[.int .i64 x2, .int .i64 y2] 44) = w8 at T7 HB7 X7 Y7 ⊢
  obtain ⟨t, ok, ht⟩ := setP_ex (dC zs p inc ys q jnc)
  obtain ⟨x, ex, hx⟩ := excP_ex (dC zs p inc ys q jnc)
  have M1 := Lib.hid ht
  have M3 := Lib.hid hx
  clear ht hx
  refine (settles_ok a1 n1 cap1 zs p inc HG.out.1 a2 n2 cap2 ys q jnc HK.out.1 t ok _ T7.out.rx T7.out.ry M1.out).mono ?_
  rintro e w9 ⟨rfl, hb⟩
  have T9 := Lib.hid (T7.out.under hb)
  have HB9 := Lib.hid (HB7.out.trans (hb.mono HB7.out.size))
  have X9 := Lib.hid (X7.out.below hb)
  have Y9 := Lib.hid (Y7.out.below hb)
  obtain ⟨c0, c1, c2, f0, f1, f2⟩ := T9.out.bx
  obtain ⟨d0, d1, d2, g0, g1, g2⟩ := T9.out.by'
  clear hb T7 HB7 X7 Y7
  go_wp2_with fail
  clear c0 c1 c2 f0 f1 f2 d0 d1 d2 g0 g1 g2
  refine (exceeds_ok a1 n1 cap1 zs p inc HG.out.1 a2 n2 cap2 ys q jnc HK.out.1 x ex _ T9.out.rx T9.out.ry M3.out).mono ?_
  rintro e w10 ⟨rfl, hb⟩
  have HB10 := Lib.hid (HB9.out.trans (hb.mono HB9.out.size))
  have X10 := X9.out.below hb
  have Y10 := Y9.out.below hb
  obtain ⟨c0, c1, f0, f1⟩ := X10
  obtain ⟨d0, d1, g0, g1⟩ := Y10
  obtain ⟨k1, k2⟩ := slopes_math HG.out.1 HK.out.1 HG.out.2 HK.out.2 N1.out.2 N2.out.2 hy10 hy20 M1.out M3.out
  obtain ⟨P1, hP1⟩ : ∃ P, x1 * y2 = P := ⟨_, rfl⟩
  obtain ⟨P2, hP2⟩ : ∃ P, x2 * y1 = P := ⟨_, rfl⟩
  have b1 : 0 ≤ P1 ∧ P1 ≤ 1073741824 * 120 := by rw [← hP1]; exact ⟨Int.mul_nonneg hx10 (by omega), Int.mul_le_mul hx11 hy21 (by omega) (by omega)⟩
  have b2 : 0 ≤ P2 ∧ P2 ≤ 1073741824 * 120 := by rw [← hP2]; exact ⟨Int.mul_nonneg hx20 (by omega), Int.mul_le_mul hx21 hy11 (by omega) (by omega)⟩
  rw [hP1, hP2] at k1 k2
  have q1 : IntKind.i64.wrap (x1 * y2) = P1 := by rw [hP1]; exact IntWalk.i64_in _ ⟨by omega, by omega⟩
  have q2 : IntKind.i64.wrap (x2 * y1) = P2 := by rw [hP2]; exact IntWalk.i64_in _ ⟨by omega, by omega⟩
  have q3 : IntKind.i64.wrap (P1 - P2) = P1 - P2 := IntWalk.i64_in _ ⟨by omega, by omega⟩
  obtain ⟨D, hD⟩ : ∃ D, P1 - P2 = D := ⟨_, rfl⟩
  rw [hD] at k1 k2 q3
  clear hb hP1 hP2 b1 b2 T9 HB9 X9 Y9 M1 M3 N1 N2
  rcases Int.lt_trichotomy D 0 with h | h | h
  · obtain rfl := k1 h
    clear k1 k2
    go_wp2_with fail
    refine (awake4 _).mono ?_
    rintro e w11 ⟨rfl, hb⟩
    have HB11 := Lib.hid (HB10.out.trans (hb.mono HB10.out.size))
    clear hb
    go_wp2_with fail
    go_ret
    exact ⟨rfl, HB11.out⟩
  · subst h
    clear k1 k2
    go_wp2_with fail
    refine (awake4 _).mono ?_
    rintro e w11 ⟨rfl, hb⟩
    have HB11 := Lib.hid (HB10.out.trans (hb.mono HB10.out.size))
    clear hb
    go_wp2_with fail
    go_ret
    exact ⟨rfl, HB11.out⟩
  · obtain ⟨rfl, rfl⟩ := k2 h
    clear k1 k2
    have h' : ¬ D < 0 := by omega
    go_wp2_with fail
    refine (awake4 _).mono ?_
    rintro e w11 ⟨rfl, hb⟩
    have HB11 := Lib.hid (HB10.out.trans (hb.mono HB10.out.size))
    clear hb
    go_wp2_with fail
    go_ret
    exact ⟨rfl, HB11.out⟩
end Go.Proofs.Ytgdkjmmlgnmidaa
