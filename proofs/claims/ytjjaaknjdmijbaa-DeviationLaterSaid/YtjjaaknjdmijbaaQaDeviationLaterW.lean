/- The walk of DeviationLater. By the verifier's side. -/
import Derived.Test.YtjjaaknjdmijbaaQaDevH
import Derived.Test.YtjjaaknjdmijbaaQaConER
namespace Go.Proofs.Ytjjaaknjdmijbaa
open Go.RowKit
set_option linter.unusedSimpArgs false
set_option linter.unusedVariables false

set_option maxRecDepth 100000 in
set_option maxHeartbeats 6400000 in
theorem deviationLater_walk (W : World) (a : Option Addr) (n cap : Nat) (hrow : RowAt W a n cap) :
    Calls Try.prog 14 #[.slice a n cap] W fun e w' => e = .returned (.bool true) ∧ Below W.heap.size W w' := by
  have HR := Lib.hid hrow
  clear hrow
  go_enter Try.func14, Try.ntmps14
  go_wp2_with fail
  refine (new_any a n cap _ HR.out).mono ?_
  rintro e u1 ⟨rfl, hb1, hz1, ra, rn, rc, hs1⟩
  have HB1 := Lib.hid hb1
  have HS1 := Lib.hid hs1
  have Z1 := Lib.hid hz1
  clear hb1 hz1 hs1
  go_wp2_with fail
  refine (zero_any3 6 (by omega) (by omega) _ ra rn rc _ HS1.out).mono ?_
  rintro e u2 ⟨af, nf, capf, zf, pf, jf, rfl, hs, he, hr, hg, hn, h0, hsm, hx⟩
  have Of := Lib.hid (And.intro hg (day_zero hn hsm))
  have Ff := Lib.hid (And.intro hn (And.intro h0 hsm))
  have Xf := Lib.hid (show ∀ x, af = some x → ¬ x.block = W.heap.size from fun x h => by have := hx x h; have := Z1.out; omega)
  have Rf := Lib.hid hr
  have HS2 := Lib.hid hs
  have HB2 := Lib.hid (HB1.out.trans (he.below (Nat.le_refl _) HB1.out.size))
  clear hs he hg hn h0 hsm hx hr
  go_wp2_with fail
  refine (zero_any3 6 (by omega) (by omega) _ ra rn rc _ HS2.out).mono ?_
  rintro e u3 ⟨ag, ng, capg, zg, pg, jg, rfl, hs, he, hr, hg, hn, h0, hsm, hx⟩
  have Og := Lib.hid (And.intro hg (day_zero hn hsm))
  have Fg := Lib.hid (And.intro hn (And.intro h0 hsm))
  have Rf := Lib.hid (Rf.out.apart he Xf.out)
  have Xg := Lib.hid (show ∀ x, ag = some x → ¬ x.block = W.heap.size from fun x h => by have := hx x h; have h9 : W.heap.size < u2.heap.size := lt_of_cell (src_cell HS2.out); omega)
  have Rg := Lib.hid hr
  have HS3 := Lib.hid hs
  have HB3 := Lib.hid (HB2.out.trans (he.below (Nat.le_refl _) HB2.out.size))
  clear hs he hg hn h0 hsm hx hr
  go_wp2_with fail
  refine (n_any 30 (by omega) (by omega) _ ra rn rc _ HS3.out).mono ?_
  rintro e u4 ⟨r, ⟨r0, r1⟩, rfl, hs, he'⟩
  have he := he'.apart
  clear he'
  have Rf := Lib.hid (Rf.out.apart he Xf.out)
  have Rg := Lib.hid (Rg.out.apart he Xg.out)
  have HS4 := Lib.hid hs
  have HB4 := Lib.hid (HB3.out.trans (he.below (Nat.le_refl _) HB3.out.size))
  clear hs he 
  obtain ⟨y0, hy0⟩ : ∃ w', u4.alloc (.cells #[.slice af nf capf, .int .i64 pf, .int .i64 jf] 24) = w' := ⟨_, rfl⟩
  have hz0 : Below u4.heap.size u4 y0 := by rw [← hy0]; exact below_box _
  have sz0 : y0.heap.size = u4.heap.size + 1 := by rw [← hy0]; simp
  obtain ⟨y1, hy1⟩ : ∃ w', y0.alloc (.cells #[.slice ag ng capg, .int .i64 pg, .int .i64 jg] 24) = w' := ⟨_, rfl⟩
  have hz1 : Below y0.heap.size y0 y1 := by rw [← hy1]; exact below_box _
  have sz1 : y1.heap.size = y0.heap.size + 1 := by rw [← hy1]; simp
  have Uf : Bx y0 u4.heap.size af nf capf pf jf zf := by rw [← hy0]; exact Bx.new Rf.out
  have Uf := Uf.under hz1
  have Ug : Bx y1 y0.heap.size ag ng capg pg jg zg := by rw [← hy1]; exact Bx.new (Rg.out.under hz0)
  have HC0 := Lib.hid (HB4.out.trans (hz0.mono HB4.out.size))
  have HC1 := Lib.hid (HC0.out.trans (hz1.mono HC0.out.size))
  have HY := Lib.hid (And.intro hy0 (hy1))
  go_upto_region 3 with fail
  try rw [HY.out.1]
  try rw [HY.out.2]
  clear HY
  obtain ⟨Bf, hB⟩ : ∃ B, u4.heap.size = B := ⟨_, rfl⟩
  rw [hB] at Uf sz0
  try rw [hB]
  have HB_f := Lib.hid hB
  clear hB
  rw [sz0] at Ug sz1
  obtain ⟨Bg, hB⟩ : ∃ B, Bf + 1 = B := ⟨_, rfl⟩
  rw [hB] at Ug sz1
  try rw [hB]
  have HB_g := Lib.hid hB
  clear hB
  have Xf := Lib.hid Uf
  have Xg := Lib.hid Ug
  clear Uf hz0 sz0 hy0 Ug hz1 sz1 hy1 Rf Rg HS1 HS2 HS3 HS4 Z1
  obtain ⟨d, hd⟩ : ∃ d : Nat, r = d := ⟨r.toNat, by omega⟩
  subst hd
  have hd30 : d < 30 := by omega
  have TG := Lib.hid (tiny_of Og.out.1 Fg.out.1 Fg.out.2.2.1.1.1 Fg.out.2.2.1.1.2.1 Fg.out.2.2.1.1.2.2.1 Fg.out.2.2.1.1.2.2.2)
  clear r0 r1
  obtain ⟨c0, c1, c2, c3, c4, c5⟩ := Xg.out.box
  go_wp2_with fail
  clear c0 c1 c2 c3 c4 c5
  with_reducible refine ((rlater_ok ag ng capg zg pg jg Og.out.1 _ d rfl (by omega) _ Xg.out.row).mono fun _ _ h => h.ok (later_can TG.out (by omega))).mono ?_
  rintro e v1 ⟨ax, nx, capx, zx, px, jx, rfl, hb, hr, hf, _⟩
  obtain ⟨w1, hw⟩ : ∃ w', v1.alloc (.cells #[.slice ax nx capx, .int .i64 px, .int .i64 jx] 24) = w' := ⟨_, rfl⟩
  have hz : Below y1.heap.size y1 w1 := by rw [← hw]; exact hb.trans ((below_box _).mono hb.size)
  have Xf := Lib.hid (Xf.out.under hz)
  have Xg := Lib.hid (Xg.out.under hz)
  have Xx := Lib.hid (show Bx w1 v1.heap.size ax nx capx px jx zx by rw [← hw]; exact Bx.new hr)
  have Ox := Lib.hid (And.intro hf.1 (hf.2.1 : ∀ t, _ = eLater d zg pg jg t))
  clear hf
  have HE1 := Lib.hid (HC1.out.trans (hz.mono HC1.out.size))
  have HW := Lib.hid hw
  clear hz hw hb hr
  go_upto_region 4 with fail
  try rw [HW.out]
  obtain ⟨Bx, hB⟩ : ∃ B, v1.heap.size = B := ⟨_, rfl⟩
  rw [hB] at Xx
  try rw [hB]
  clear hB HW
  have Dx := Lib.hid (show Day (eC zx px jx) from (Day.laterO Og.out.2 d).of Ox.out.2)
  obtain ⟨c0, c1, c2, c3, c4, c5⟩ := Xf.out.box
  obtain ⟨d0, d1, d2, d3, d4, d5⟩ := Xg.out.box
  go_wp2_with fail
  clear c0 c1 c2 c3 c4 c5 d0 d1 d2 d3 d4 d5
  with_reducible refine (delay_day af nf capf zf pf jf Of.out.1 ag ng capg zg pg jg Og.out.1 Of.out.2 Og.out.2 _ Xf.out.row Xg.out.row).mono ?_
  rintro e v2 ⟨i1, m1, k1, rfl, hb, hD⟩
  obtain ⟨w2, hw⟩ : ∃ w', v2.alloc (.cells #[.bool i1, .int .i64 m1, .int .i64 (k1 : Nat)] 74) = w' := ⟨_, rfl⟩
  have hz : Below w1.heap.size w1 w2 := by rw [← hw]; exact hb.trans ((below_box _).mono hb.size)
  have Xf := Lib.hid (Xf.out.under hz)
  have Xg := Lib.hid (Xg.out.under hz)
  have Xx := Lib.hid (Xx.out.under hz)
  have X1 := Lib.hid (show Cur3 w2 v2.heap.size (.bool i1) (.int .i64 m1) (.int .i64 (k1 : Nat)) by rw [← hw]; exact Cur3.new v2 _ _ _ _)
  have D1 := Lib.hid hD
  clear hD
  have HE2 := Lib.hid (HE1.out.trans (hz.mono HE1.out.size))
  have HW := Lib.hid hw
  clear hz hw hb
  go_upto_region 5 with fail
  try rw [HW.out]
  obtain ⟨B1, hB⟩ : ∃ B, v2.heap.size = B := ⟨_, rfl⟩
  rw [hB] at X1
  try rw [hB]
  clear hB HW
  obtain ⟨c0, c1, c2, c3, c4, c5⟩ := Xf.out.box
  obtain ⟨d0, d1, d2, d3, d4, d5⟩ := Xx.out.box
  go_wp2_with fail
  clear c0 c1 c2 c3 c4 c5 d0 d1 d2 d3 d4 d5
  with_reducible refine (delay_day af nf capf zf pf jf Of.out.1 ax nx capx zx px jx Ox.out.1 Of.out.2 Dx.out _ Xf.out.row Xx.out.row).mono ?_
  rintro e v3 ⟨i2, m2, k2, rfl, hb, hD⟩
  obtain ⟨w3, hw⟩ : ∃ w', v3.alloc (.cells #[.bool i2, .int .i64 m2, .int .i64 (k2 : Nat)] 74) = w' := ⟨_, rfl⟩
  have hz : Below w2.heap.size w2 w3 := by rw [← hw]; exact hb.trans ((below_box _).mono hb.size)
  have Xf := Lib.hid (Xf.out.under hz)
  have Xg := Lib.hid (Xg.out.under hz)
  have Xx := Lib.hid (Xx.out.under hz)
  have X1 := Lib.hid (X1.out.below hz)
  have X2 := Lib.hid (show Cur3 w3 v3.heap.size (.bool i2) (.int .i64 m2) (.int .i64 (k2 : Nat)) by rw [← hw]; exact Cur3.new v3 _ _ _ _)
  have D2 := Lib.hid hD
  clear hD
  have HE3 := Lib.hid (HE2.out.trans (hz.mono HE2.out.size))
  have HW := Lib.hid hw
  clear hz hw hb
  go_upto_region 6 with fail
  try rw [HW.out]
  obtain ⟨B2, hB⟩ : ∃ B, v3.heap.size = B := ⟨_, rfl⟩
  rw [hB] at X2
  try rw [hB]
  clear hB HW
  obtain ⟨n1, hn1, d1, _, b1⟩ := D1.out
  obtain ⟨n2, hn2, d2, _, b2⟩ := D2.out
  have he : eC zx px jx = laterO d (eC zg pg jg) := funext Ox.out.2
  rw [he] at d2
  obtain ⟨e1, e2⟩ := later_delay (up_eC Og.out.1) (nn_eC Og.out.1) d d1 d2
  have h0 : 0 ≤ m1 := by omega
  have h02 : 0 ≤ m2 := by omega
  subst e1
  have e2 : i1 = false → m2 ≤ m1 + (d : Int) ∧ m1 ≤ m2 ∧ (m1 = 0 ∨ m2 = m1 + (d : Int)) := fun h => by obtain ⟨q1, q2, q3⟩ := e2 h; omega
  clear hn1 hn2 d1 d2 he D1 D2
  obtain ⟨c0, c1, c2, c3, c4, c5⟩ := X1.out
  obtain ⟨g0, g1, g2, g3, g4, g5⟩ := X2.out
  cases i1 with
  | true =>
    clear e2
    go_wp2_with fail
    refine (awake10 _).mono ?_
    rintro e y9 ⟨rfl, hb⟩
    have HBZ := Lib.hid (HE3.out.trans (hb.mono HE3.out.size))
    clear hb
    go_wp2_with fail
    go_ret
    exact ⟨rfl, HBZ.out⟩
  | false =>
    obtain ⟨q1, q2, q3⟩ := e2 rfl
    clear e2
    have t1 : decide (m2 ≤ m1 + (d : Int)) = true := decide_eq_true q1
    have t2 : decide (m1 ≤ m2) = true := decide_eq_true q2
    obtain ⟨s1, hs1⟩ : ∃ s1, m1 + (d : Int) = s1 := ⟨_, rfl⟩
    have hw1 : IntKind.i64.wrap s1 = s1 := IntWalk.i64_in _ ⟨by omega, by omega⟩
    rw [hs1] at q1 t1 q3
    by_cases hz : m1 = 0
    · have t3 : (m1 == 0) = true := by simpa using hz
      have HZ := Lib.hid hz
      clear hz q3
      go_wp2_with fail
      refine (awake10 _).mono ?_
      rintro e y9 ⟨rfl, hb⟩
      have HBZ := Lib.hid (HE3.out.trans (hb.mono HE3.out.size))
      clear hb
      go_wp2_with fail
      go_ret
      exact ⟨rfl, HBZ.out⟩
    · have t3 : (m1 == 0) = false := by simpa using hz
      have h4 : m2 = s1 := by omega
      have t4 : (m2 == s1) = true := by simpa using h4
      have HZ := Lib.hid (And.intro hz h4)
      clear hz q3 h4
      go_wp2_with fail
      refine (awake10 _).mono ?_
      rintro e y9 ⟨rfl, hb⟩
      have HBZ := Lib.hid (HE3.out.trans (hb.mono HE3.out.size))
      clear hb
      go_wp2_with fail
      go_ret
      exact ⟨rfl, HBZ.out⟩

end Go.Proofs.Ytjjaaknjdmijbaa
