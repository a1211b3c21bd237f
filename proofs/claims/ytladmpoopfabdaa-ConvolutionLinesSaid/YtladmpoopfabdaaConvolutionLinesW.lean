/- The walk of ConvolutionLines. By the verifier's side. -/
import Derived.Test.YtladmpoopfabdaaConER
import Derived.Test.YtladmpoopfabdaaZero
namespace Go.Proofs.Ytladmpoopfabdaa
open Go.RowKit
set_option linter.unusedSimpArgs false
set_option linter.unusedVariables false

theorem lineE_eC (x : Int) (h0 : 0 ≤ x) (h1 : x ≤ 1000) : eC [0] 1 x = lineE x 0 := line_eC x h0 h1
theorem rline8 (x : Int) (h0 : 0 ≤ x) (h1 : x ≤ 1000) (w : World) : Calls Try.prog 42 #[.int .i64 x] w (GivesOk (lineE x 0) w) := by
  rw [← lineE_eC x h0 h1]; exact rline7 x h0 h1 w
theorem lineE_can (x : Int) (h0 : 0 ≤ x) (h1 : x ≤ 1000) (d : Nat) (hd : d ≤ 100) : ECan (lineE x d) := by
  rw [← line_later (fun t => congrFun (lineE_eC x h0 h1) t) d]
  exact later_can (tiny_of (line_good7 x h0 h1) line_fin7 (by decide) (by decide) h1 (fun i hi => .inl (by
    obtain rfl : i = 0 := by simpa using hi
    decide))) hd
section
variable (a : Option Addr) (n cap : Nat) (zs : List Int) (p : Nat) (inc : Int) (x : Int) (h0 : 0 ≤ x) (h1 : x ≤ 1000)
include h0 h1
theorem rlater8 (h : EForm zs p inc (lineE x 0)) (di : Int) (d : Nat) (hdi : di = d) (hd : d ≤ 100) (w : World) (hr : RowZ w a n cap zs) :
    Calls Try.prog 37 #[curV a n cap p inc, .int .i64 di] w (GivesOk (lineE x d) w) := by
  have e := line_later h.val d
  refine (rlater_ok a n cap zs p inc h.good di d hdi (by omega) w hr).mono fun _ _ k => ?_
  rw [e] at k
  exact k.ok (lineE_can x h0 h1 d hd)
theorem cof8 {m : Nat} (h : EForm zs p inc (lineE x m)) (a2 : Option Addr) (n2 cap2 : Nat) (ys : List Int) (q : Nat) (jnc : Int) (y : Int) (k0 : 0 ≤ y) (k1 : y ≤ 1000) {l : Nat} (k : EForm ys q jnc (lineE y l)) (hl : m + l ≤ 100) (w : World) (r1 : RowZ w a n cap zs) (r2 : RowZ w a2 n2 cap2 ys) :
    Calls Try.prog 22 #[curV a n cap p inc, curV a2 n2 cap2 q jnc] w (GivesOk (lineE (min x y) (m + l)) w) := by
  have e : eConv zs p inc ys q jnc = lineE (min x y) (m + l) := by
    unfold eConv; rw [funext h.val, funext k.val]; exact lineE_conv x y m l h0 k0
  refine (cof_day a n cap zs p inc h.good a2 n2 cap2 ys q jnc k.good ((lineE_day x h0 m).of h.val) ((lineE_day y k0 l).of k.val) w r1 r2).mono fun _ _ g => ?_
  rw [e] at g
  exact g.ok (lineE_can _ (by omega) (by omega) _ hl)
end

theorem flat_q {ys : List Int} {q : Nat} {jnc : Int} {v : Int} (h0 : 0 ≤ v) (h1 : v ≤ 1000) (k : EForm ys q jnc (eC [0, v] 1 0)) : q ≤ 1 := eform_per (flat_good7 v h0 h1) ⟨1, 0, fun t ht => by rw [encF_eC, flat_at7 v h0 h1, flat_at7 v h0 h1, if_neg (by omega), if_neg (by omega)]; omega⟩ k
section
variable (a : Option Addr) (n cap : Nat) (zs : List Int) (p : Nat) (inc : Int) (g : Good zs p inc) (hp : p ≤ 8) (a2 : Option Addr) (n2 cap2 : Nat) (ys : List Int) (q : Nat) (jnc : Int) (v : Int) (h0 : 0 ≤ v) (h1 : v ≤ 1000) (k : EForm ys q jnc (eC [0, v] 1 0)) (w : World) (r1 : RowZ w a n cap zs) (r2 : RowZ w a2 n2 cap2 ys)
include g hp h0 h1 k r1 r2
theorem cof9 (hf : ¬ InfC zs) (hz : zs.getD 0 0 = 0) : Calls Try.prog 22 #[curV a n cap p inc, curV a2 n2 cap2 q jnc] w (GivesE (eMin zs p inc ys q jnc) w) := by
  obtain ⟨L, hL, hl⟩ := lcm_small g k.good (by omega) (by have := flat_q h0 h1 k; omega)
  have ey : eC ys q jnc = fun (t : Nat) => some (if t = 0 then 0 else v) := funext fun t => by rw [k.val, eC_fin (flat_fin7 v h0 h1), flat_at7 v h0 h1]
  have e : eConv zs p inc ys q jnc = eMin zs p inc ys q jnc := by
    unfold eConv eMin
    rw [ey]
    refine conv_flat v ?_ (fun t x hx => ?_) h0
    · rw [eC_fin hf]
      exact congrArg some (show atC zs p inc 0 = 0 from (atC_lt (by have := g.p1; have := g.p3; omega)).trans hz)
    · rw [eC_fin hf] at hx
      cases hx
      exact g.nonneg t
  rw [← e]
  exact cof_ok a n cap zs p inc g a2 n2 cap2 ys q jnc k.good L hl hL w r1 r2
theorem rmin9 : Calls Try.prog 36 #[curV a n cap p inc, curV a2 n2 cap2 q jnc] w (GivesE (eMin zs p inc ys q jnc) w) := by
  obtain ⟨L, hL, hl⟩ := lcm_small g k.good (by omega) (by have := flat_q h0 h1 k; omega)
  exact rmin_ok a n cap zs p inc g a2 n2 cap2 ys q jnc k.good L hl hL w r1 r2
end

set_option maxRecDepth 100000 in
set_option maxHeartbeats 6400000 in
theorem convolutionLines_walk (W : World) (a : Option Addr) (n cap : Nat) (hrow : RowAt W a n cap) :
    Calls Try.prog 8 #[.slice a n cap] W fun e w' => e = .returned (.bool true) ∧ Below W.heap.size W w' := by
  have HR := Lib.hid hrow
  clear hrow
  go_enter Try.func8, Try.ntmps8
  go_wp2_with fail
  refine (new_any a n cap _ HR.out).mono ?_
  rintro e u1 ⟨rfl, hb1, hz1, ra, rn, rc, hs1⟩
  have HB1 := Lib.hid hb1
  have HS1 := Lib.hid hs1
  have Z1 := Lib.hid hz1
  clear hb1 hz1 hs1
  go_wp2_with fail
  refine (n_any 40 (by omega) (by omega) _ ra rn rc _ HS1.out).mono ?_
  rintro e u2 ⟨r2, ⟨r20, r21⟩, rfl, hs2, he2⟩
  have HS2 := Lib.hid hs2
  have HB2 := Lib.hid (HB1.out.trans (he2.below (Nat.le_refl _)))
  clear hs2 he2
  go_wp2_with fail
  refine (n_any 40 (by omega) (by omega) _ ra rn rc _ HS2.out).mono ?_
  rintro e u3 ⟨r3, ⟨r30, r31⟩, rfl, hs3, he3⟩
  have HS3 := Lib.hid hs3
  have HB3 := Lib.hid (HB2.out.trans (he3.below (Nat.le_refl _)))
  clear hs3 he3
  go_wp2_with fail
  refine (n_any 20 (by omega) (by omega) _ ra rn rc _ HS3.out).mono ?_
  rintro e u4 ⟨r4, ⟨r40, r41⟩, rfl, hs4, he4⟩
  have HS4 := Lib.hid hs4
  have HB4 := Lib.hid (HB3.out.trans (he4.below (Nat.le_refl _)))
  clear hs4 he4
  go_wp2_with fail
  refine (n_any 20 (by omega) (by omega) _ ra rn rc _ HS4.out).mono ?_
  rintro e u5 ⟨r5, ⟨r50, r51⟩, rfl, hs5, he5⟩
  have HS5 := Lib.hid hs5
  have HB5 := Lib.hid (HB4.out.trans (he5.below (Nat.le_refl _)))
  clear hs5 he5
  obtain ⟨km, rfl⟩ := Int.eq_ofNat_of_zero_le r40
  obtain ⟨kn, rfl⟩ := Int.eq_ofNat_of_zero_le r50
  have HM := Lib.hid (show km ≤ 20 ∧ kn ≤ 20 from ⟨by omega, by omega⟩)
  have HN := Lib.hid (show (0 ≤ r2 ∧ r2 ≤ 1000) ∧ (0 ≤ r3 ∧ r3 ≤ 1000) from ⟨⟨by omega, by omega⟩, by omega, by omega⟩)
  have tadd : IntKind.i64.wrap ((km : Int) + (kn : Int)) = (km : Int) + (kn : Int) := IntWalk.i64_in _ ⟨by omega, by omega⟩
  have HU := Lib.hid (Below.refl u5.heap.size u5)
  have HZ5 := Lib.hid (show W.heap.size < u5.heap.size from lt_of_cell (src_cell HS5.out))
  clear r20 r21 r30 r31 r40 r41 r50 r51
  go_wp2_with fail
  with_reducible refine (rline8 r2 HN.out.1.1 HN.out.1.2 _).mono ?_
  rintro e v1 ⟨a1, n1, cap1, z1, p1, i1, rfl, hb, hr, hf, hx⟩
  obtain ⟨w1, hw⟩ : ∃ W, v1.alloc (.cells #[.slice a1 n1 cap1, .int .i64 p1, .int .i64 i1] 24) = W := ⟨_, rfl⟩
  have hz : Below u5.heap.size u5 w1 := by rw [← hw]; exact hb.trans ((below_box _).mono hb.size)
  have HB_1 := Lib.hid (HU.out.trans (hz.mono HU.out.size))
  have Xf_1 := Lib.hid (show Bx w1 v1.heap.size a1 n1 cap1 p1 i1 z1 by rw [← hw]; exact Bx.new hr)
  have HFf := Lib.hid hf
  have hw1 := hw
  have SZ1 := Lib.hid (show v1.heap.size < w1.heap.size ∧ u5.heap.size ≤ v1.heap.size from ⟨by rw [← hw]; simp, hb.size⟩)
  have RF1 := Lib.hid (And.intro hr.far hx)
  clear hb hr hf hx hz hw
  go_wp2_with fail
  try rw [hw1]
  clear hw1
  with_reducible refine (rline8 r3 HN.out.2.1 HN.out.2.2 _).mono ?_
  rintro e v2 ⟨a2, n2, cap2, z2, p2, i2, rfl, hb, hr, hf, hx⟩
  obtain ⟨w2, hw⟩ : ∃ W, v2.alloc (.cells #[.slice a2 n2 cap2, .int .i64 p2, .int .i64 i2] 24) = W := ⟨_, rfl⟩
  have hz : Below w1.heap.size w1 w2 := by rw [← hw]; exact hb.trans ((below_box _).mono hb.size)
  have Xf_2 := Lib.hid (Xf_1.out.under hz)
  have HB_2 := Lib.hid (HB_1.out.trans (hz.mono HB_1.out.size))
  have Xg_2 := Lib.hid (show Bx w2 v2.heap.size a2 n2 cap2 p2 i2 z2 by rw [← hw]; exact Bx.new hr)
  have HFg := Lib.hid hf
  have hw2 := hw
  have SZ2 := Lib.hid (show v2.heap.size < w2.heap.size ∧ w1.heap.size ≤ v2.heap.size from ⟨by rw [← hw]; simp, hb.size⟩)
  have RF2 := Lib.hid (And.intro hr.far hx)
  clear hb hr hf hx hz hw
  obtain ⟨c0, c1, c2, c3, c4, c5⟩ := Xf_2.out.box
  go_wp2_with fail
  try rw [hw2]
  clear hw2
  clear c0 c1 c2 c3 c4 c5
  with_reducible refine (rlater8 a1 n1 cap1 z1 p1 i1 r2 HN.out.1.1 HN.out.1.2 HFf.out (km : Int) km rfl (by have := HM.out; omega) _ Xf_2.out.row).mono ?_
  rintro e v3 ⟨a3, n3, cap3, z3, p3, i3, rfl, hb, hr, hf, hx⟩
  have HFf2 := Lib.hid hf
  have RF3 := Lib.hid (And.intro hr.far hx)
  obtain ⟨w3, hw⟩ : ∃ W, (((v3.setCell ⟨v1.heap.size, 0, none⟩ (.slice a3 n3 cap3)).setCell ⟨v1.heap.size, 1, none⟩ (.int .i64 p3)).setCell ⟨v1.heap.size, 2, none⟩ (.int .i64 i3)) = W := ⟨_, rfl⟩
  have SZ3 := Lib.hid (show w3.heap.size = v3.heap.size ∧ w2.heap.size ≤ v3.heap.size from ⟨by rw [← hw]; simp [World.setCell], hb.size⟩)
  obtain ⟨y0, y1, y2, y3, y4, y5⟩ := (Xf_2.out.under hb).box
  have Xf_3 := Lib.hid (show Bx w3 v1.heap.size a3 n3 cap3 p3 i3 z3 by rw [← hw]; exact (Xf_2.out.under hb).put hr (fun x hx9 hn9 => by have q99 := RF3.out.2 x hx9; have q0 := SZ1.out; have q1 := SZ2.out; have q2 := SZ3.out; omega))
  have Xg_3 := Lib.hid (by rw [← hw]; exact (Xg_2.out.under hb).set (F := v2.heap.size) (G := v1.heap.size) (by have q0 := SZ1.out; have q1 := SZ2.out; have q2 := SZ3.out; omega) (fun x hx9 hn9 => by have q98 := RF2.out.1 x hx9 hn9; have q99 := RF2.out.2 x hx9; have q0 := SZ1.out; have q1 := SZ2.out; have q2 := SZ3.out; omega) (.slice a3 n3 cap3) (.int .i64 p3) (.int .i64 i3) : Bx w3 v2.heap.size _ _ _ _ _ _)
  have HB_3 := Lib.hid (show Below u5.heap.size u5 w3 by rw [← hw]; exact below_set3 (HB_2.out.trans (hb.mono HB_2.out.size)) (by have q0 := SZ1.out; have q1 := SZ2.out; have q2 := SZ3.out; have q97 := HU.out.size; omega) _ _ _)
  have hw3 := hw
  clear hb hr hf hx hw
  obtain ⟨c0, c1, c2, c3, c4, c5⟩ := Xg_3.out.box
  go_wp2_with fail
  try rw [hw3]
  clear hw3
  clear c0 c1 c2 c3 c4 c5
  clear y0 y1 y2 y3 y4 y5
  with_reducible refine (rlater8 a2 n2 cap2 z2 p2 i2 r3 HN.out.2.1 HN.out.2.2 HFg.out (kn : Int) kn rfl (by have := HM.out; omega) _ Xg_3.out.row).mono ?_
  rintro e v4 ⟨a4, n4, cap4, z4, p4, i4, rfl, hb, hr, hf, hx⟩
  have HFg2 := Lib.hid hf
  have RF4 := Lib.hid (And.intro hr.far hx)
  obtain ⟨w4, hw⟩ : ∃ W, (((v4.setCell ⟨v2.heap.size, 0, none⟩ (.slice a4 n4 cap4)).setCell ⟨v2.heap.size, 1, none⟩ (.int .i64 p4)).setCell ⟨v2.heap.size, 2, none⟩ (.int .i64 i4)) = W := ⟨_, rfl⟩
  have SZ4 := Lib.hid (show w4.heap.size = v4.heap.size ∧ w3.heap.size ≤ v4.heap.size from ⟨by rw [← hw]; simp [World.setCell], hb.size⟩)
  have Xf_4 := Lib.hid (by rw [← hw]; exact (Xf_3.out.under hb).set (F := v1.heap.size) (G := v2.heap.size) (by have q0 := SZ1.out; have q1 := SZ2.out; have q2 := SZ3.out; have q3 := SZ4.out; omega) (fun x hx9 hn9 => by have q98 := RF3.out.1 x hx9 hn9; have q99 := RF3.out.2 x hx9; have q0 := SZ1.out; have q1 := SZ2.out; have q2 := SZ3.out; have q3 := SZ4.out; omega) (.slice a4 n4 cap4) (.int .i64 p4) (.int .i64 i4) : Bx w4 v1.heap.size _ _ _ _ _ _)
  obtain ⟨y0, y1, y2, y3, y4, y5⟩ := (Xg_3.out.under hb).box
  have Xg_4 := Lib.hid (show Bx w4 v2.heap.size a4 n4 cap4 p4 i4 z4 by rw [← hw]; exact (Xg_3.out.under hb).put hr (fun x hx9 hn9 => by have q99 := RF4.out.2 x hx9; have q0 := SZ1.out; have q1 := SZ2.out; have q2 := SZ3.out; have q3 := SZ4.out; omega))
  have HB_4 := Lib.hid (show Below u5.heap.size u5 w4 by rw [← hw]; exact below_set3 (HB_3.out.trans (hb.mono HB_3.out.size)) (by have q0 := SZ1.out; have q1 := SZ2.out; have q2 := SZ3.out; have q3 := SZ4.out; have q97 := HU.out.size; omega) _ _ _)
  have hw4 := hw
  clear hb hr hf hx hw
  obtain ⟨c0, c1, c2, c3, c4, c5⟩ := Xf_4.out.box
  obtain ⟨d0, d1, d2, d3, d4, d5⟩ := Xg_4.out.box
  go_wp2_with fail
  try rw [hw4]
  clear hw4
  clear c0 c1 c2 c3 c4 c5 d0 d1 d2 d3 d4 d5
  clear y0 y1 y2 y3 y4 y5
  with_reducible refine (cof8 a3 n3 cap3 z3 p3 i3 r2 HN.out.1.1 HN.out.1.2 HFf2.out a4 n4 cap4 z4 p4 i4 r3 HN.out.2.1 HN.out.2.2 HFg2.out (by have := HM.out; omega) _ Xf_4.out.row Xg_4.out.row).mono ?_
  rintro e v5 ⟨a5, n5, cap5, z5, p5, i5, rfl, hb, hr, hf, hx⟩
  obtain ⟨w5, hw⟩ : ∃ W, v5.alloc (.cells #[.slice a5 n5 cap5, .int .i64 p5, .int .i64 i5] 24) = W := ⟨_, rfl⟩
  have hz : Below w4.heap.size w4 w5 := by rw [← hw]; exact hb.trans ((below_box _).mono hb.size)
  have Xf_5 := Lib.hid (Xf_4.out.under hz)
  have Xg_5 := Lib.hid (Xg_4.out.under hz)
  have HB_5 := Lib.hid (HB_4.out.trans (hz.mono HB_4.out.size))
  have Xh_5 := Lib.hid (show Bx w5 v5.heap.size a5 n5 cap5 p5 i5 z5 by rw [← hw]; exact Bx.new hr)
  have HFh := Lib.hid hf
  have hw5 := hw
  have SZ5 := Lib.hid (show v5.heap.size < w5.heap.size ∧ w4.heap.size ≤ v5.heap.size from ⟨by rw [← hw]; simp, hb.size⟩)
  have RF5 := Lib.hid (And.intro hr.far hx)
  clear hb hr hf hx hz hw
  by_cases hlt : r3 < r2
  · have HMN := Lib.hid (show min r2 r3 = r3 by rw [Int.min_eq_right (by omega)])
    have HM2 := Lib.hid (show 0 ≤ r3 ∧ r3 ≤ 1000 from ⟨by have := HN.out; omega, by have := HN.out; omega⟩)
    go_wp2_with fail
    try rw [hw5]
    clear hw5
    with_reducible refine (rline8 r3 HM2.out.1 HM2.out.2 _).mono ?_
    rintro e v6 ⟨a6, n6, cap6, z6, p6, i6, rfl, hb, hr, hf, hx⟩
    obtain ⟨w6, hw⟩ : ∃ W, v6.alloc (.cells #[.slice a6 n6 cap6, .int .i64 p6, .int .i64 i6] 24) = W := ⟨_, rfl⟩
    have hz : Below w5.heap.size w5 w6 := by rw [← hw]; exact hb.trans ((below_box _).mono hb.size)
    have Xf_6 := Lib.hid (Xf_5.out.under hz)
    have Xg_6 := Lib.hid (Xg_5.out.under hz)
    have Xh_6 := Lib.hid (Xh_5.out.under hz)
    have HB_6 := Lib.hid (HB_5.out.trans (hz.mono HB_5.out.size))
    have Xx_6 := Lib.hid (show Bx w6 v6.heap.size a6 n6 cap6 p6 i6 z6 by rw [← hw]; exact Bx.new hr)
    have HFx := Lib.hid hf
    have hw6 := hw
    have SZ6 := Lib.hid (show v6.heap.size < w6.heap.size ∧ w5.heap.size ≤ v6.heap.size from ⟨by rw [← hw]; simp, hb.size⟩)
    have RF6 := Lib.hid (And.intro hr.far hx)
    clear hb hr hf hx hz hw
    obtain ⟨c0, c1, c2, c3, c4, c5⟩ := Xx_6.out.box
    go_wp2_with fail
    try rw [hw6]
    clear hw6
    clear c0 c1 c2 c3 c4 c5
    with_reducible refine (rlater8 a6 n6 cap6 z6 p6 i6 r3 HM2.out.1 HM2.out.2 HFx.out ((km : Int) + (kn : Int)) (km + kn) (by omega) (by have := HM.out; omega) _ Xx_6.out.row).mono ?_
    rintro e v7 ⟨a7, n7, cap7, z7, p7, i7, rfl, hb, hr, hf, hx⟩
    have HFx2 := Lib.hid hf
    have RF7 := Lib.hid (And.intro hr.far hx)
    obtain ⟨w7, hw⟩ : ∃ W, (((v7.setCell ⟨v6.heap.size, 0, none⟩ (.slice a7 n7 cap7)).setCell ⟨v6.heap.size, 1, none⟩ (.int .i64 p7)).setCell ⟨v6.heap.size, 2, none⟩ (.int .i64 i7)) = W := ⟨_, rfl⟩
    have SZ7 := Lib.hid (show w7.heap.size = v7.heap.size ∧ w6.heap.size ≤ v7.heap.size from ⟨by rw [← hw]; simp [World.setCell], hb.size⟩)
    have Xf_7 := Lib.hid (by rw [← hw]; exact (Xf_6.out.under hb).set (F := v1.heap.size) (G := v6.heap.size) (by have q0 := SZ1.out; have q1 := SZ2.out; have q2 := SZ3.out; have q3 := SZ4.out; have q4 := SZ5.out; have q5 := SZ6.out; have q6 := SZ7.out; omega) (fun x hx9 hn9 => by have q98 := RF3.out.1 x hx9 hn9; have q99 := RF3.out.2 x hx9; have q0 := SZ1.out; have q1 := SZ2.out; have q2 := SZ3.out; have q3 := SZ4.out; have q4 := SZ5.out; have q5 := SZ6.out; have q6 := SZ7.out; omega) (.slice a7 n7 cap7) (.int .i64 p7) (.int .i64 i7) : Bx w7 v1.heap.size _ _ _ _ _ _)
    have Xg_7 := Lib.hid (by rw [← hw]; exact (Xg_6.out.under hb).set (F := v2.heap.size) (G := v6.heap.size) (by have q0 := SZ1.out; have q1 := SZ2.out; have q2 := SZ3.out; have q3 := SZ4.out; have q4 := SZ5.out; have q5 := SZ6.out; have q6 := SZ7.out; omega) (fun x hx9 hn9 => by have q98 := RF4.out.1 x hx9 hn9; have q99 := RF4.out.2 x hx9; have q0 := SZ1.out; have q1 := SZ2.out; have q2 := SZ3.out; have q3 := SZ4.out; have q4 := SZ5.out; have q5 := SZ6.out; have q6 := SZ7.out; omega) (.slice a7 n7 cap7) (.int .i64 p7) (.int .i64 i7) : Bx w7 v2.heap.size _ _ _ _ _ _)
    have Xh_7 := Lib.hid (by rw [← hw]; exact (Xh_6.out.under hb).set (F := v5.heap.size) (G := v6.heap.size) (by have q0 := SZ1.out; have q1 := SZ2.out; have q2 := SZ3.out; have q3 := SZ4.out; have q4 := SZ5.out; have q5 := SZ6.out; have q6 := SZ7.out; omega) (fun x hx9 hn9 => by have q98 := RF5.out.1 x hx9 hn9; have q99 := RF5.out.2 x hx9; have q0 := SZ1.out; have q1 := SZ2.out; have q2 := SZ3.out; have q3 := SZ4.out; have q4 := SZ5.out; have q5 := SZ6.out; have q6 := SZ7.out; omega) (.slice a7 n7 cap7) (.int .i64 p7) (.int .i64 i7) : Bx w7 v5.heap.size _ _ _ _ _ _)
    obtain ⟨y0, y1, y2, y3, y4, y5⟩ := (Xx_6.out.under hb).box
    have Xx_7 := Lib.hid (show Bx w7 v6.heap.size a7 n7 cap7 p7 i7 z7 by rw [← hw]; exact (Xx_6.out.under hb).put hr (fun x hx9 hn9 => by have q99 := RF7.out.2 x hx9; have q0 := SZ1.out; have q1 := SZ2.out; have q2 := SZ3.out; have q3 := SZ4.out; have q4 := SZ5.out; have q5 := SZ6.out; have q6 := SZ7.out; omega))
    have HB_7 := Lib.hid (show Below u5.heap.size u5 w7 by rw [← hw]; exact below_set3 (HB_6.out.trans (hb.mono HB_6.out.size)) (by have q0 := SZ1.out; have q1 := SZ2.out; have q2 := SZ3.out; have q3 := SZ4.out; have q4 := SZ5.out; have q5 := SZ6.out; have q6 := SZ7.out; have q97 := HU.out.size; omega) _ _ _)
    have hw7 := hw
    clear hb hr hf hx hw
    have HFh2 := Lib.hid (show EForm z5 p5 i5 (lineE r3 (km + kn)) by have := HFh.out; rwa [HMN.out] at this)
    clear hlt
    obtain ⟨c0, c1, c2, c3, c4, c5⟩ := Xh_7.out.box
    obtain ⟨d0, d1, d2, d3, d4, d5⟩ := Xx_7.out.box
    go_wp2_with fail
    try rw [hw7]
    clear hw7
    clear c0 c1 c2 c3 c4 c5 d0 d1 d2 d3 d4 d5
    clear y0 y1 y2 y3 y4 y5
    with_reducible refine (same_at HFh2.out HFx2.out _ Xh_7.out.row Xx_7.out.row).mono ?_
    rintro e w8 ⟨rfl, hb⟩
    have Xf_8 := Lib.hid (Xf_7.out.under hb)
    have Xg_8 := Lib.hid (Xg_7.out.under hb)
    have Xh_8 := Lib.hid (Xh_7.out.under hb)
    have Xx_8 := Lib.hid (Xx_7.out.under hb)
    have HB_8 := Lib.hid (HB_7.out.trans (hb.mono HB_7.out.size))
    have SY8 := Lib.hid hb.size
    clear hb
    go_wp2_with fail
    have HSA := Lib.hid (HS5.out.under HB_8.out)
    have HBA := Lib.hid (HB5.out.trans (HB_8.out.mono HB5.out.size))
    refine (n_any 60 (by omega) (by omega) _ ra rn rc _ HSA.out).mono ?_
    rintro e ub ⟨top, ⟨top0, top1⟩, rfl, hsb, heb⟩
    have HSB := Lib.hid hsb
    have HBB := Lib.hid (HBA.out.trans (heb.below (Nat.le_refl _)))
    have HT := Lib.hid (show 0 ≤ top ∧ top ≤ 1000 from ⟨top0, by omega⟩)
    have HUB := Lib.hid (Below.refl ub.heap.size ub)
    clear hsb heb top0 top1
    go_wp2_with fail
    with_reducible refine (rflat7 top HT.out.1 HT.out.2 _).mono ?_
    rintro e v9 ⟨a9, n9, cap9, z9, p9, i9, rfl, hb, hr, hf, hx⟩
    obtain ⟨w9, hw⟩ : ∃ W, v9.alloc (.cells #[.slice a9 n9 cap9, .int .i64 p9, .int .i64 i9] 24) = W := ⟨_, rfl⟩
    have hz : Below ub.heap.size ub w9 := by rw [← hw]; exact hb.trans ((below_box _).mono hb.size)
    have HB_9 := Lib.hid (HUB.out.trans (hz.mono HUB.out.size))
    have Xl_9 := Lib.hid (show Bx w9 v9.heap.size a9 n9 cap9 p9 i9 z9 by rw [← hw]; exact Bx.new hr)
    have HFl := Lib.hid hf
    have hw9 := hw
    have SZ9 := Lib.hid (show v9.heap.size < w9.heap.size ∧ ub.heap.size ≤ v9.heap.size from ⟨by rw [← hw]; simp, hb.size⟩)
    have RF9 := Lib.hid (And.intro hr.far hx)
    clear hb hr hf hx hz hw
    go_wp2_with fail
    try rw [hw9]
    clear hw9
    have HSC := Lib.hid (HSB.out.under HB_9.out)
    have HBC := Lib.hid (HBB.out.trans (HB_9.out.mono HBB.out.size))
    refine (zero_any 6 (by omega) (by omega) _ ra rn rc _ HSC.out).mono ?_
    rintro e uc ⟨ak, nk, capk, zk, pk, jk, rfl, hsc, hec, hrc, gk, hfk, h0k, smk, hxk⟩
    have HK := Lib.hid (And.intro gk (And.intro hfk (And.intro h0k smk.2.1)))
    obtain ⟨ud, hw⟩ : ∃ W, uc.alloc (.cells #[.slice ak nk capk, .int .i64 pk, .int .i64 jk] 24) = W := ⟨_, rfl⟩
    have hz : Below uc.heap.size uc ud := by rw [← hw]; exact below_box _
    have hlt : W.heap.size < ub.heap.size := lt_of_cell (src_cell HSB.out)
    have Xk := Lib.hid (show Bx ud uc.heap.size ak nk capk pk jk zk by rw [← hw]; exact Bx.new hrc)
    have Xl := Lib.hid ((Xl_9.out.apart hec (by have := SZ9.out; omega) (fun x hx => by have := RF9.out.2 x hx; omega)).under hz)
    have hbd := HBC.out.trans (hec.below (Nat.le_refl _) HBC.out.size)
    have HBD := Lib.hid (hbd.trans (hz.mono hbd.size))
    have hw9 := hw
    clear hsc hec hrc gk hfk h0k smk hxk hz hlt hbd hw
    by_cases hc : ECan (eMin zk pk jk z9 p9 i9)
    · have HC := Lib.hid hc
      clear hc
      obtain ⟨c0, c1, c2, c3, c4, c5⟩ := Xk.out.box
      obtain ⟨d0, d1, d2, d3, d4, d5⟩ := Xl.out.box
      go_wp2_with fail
      try rw [hw9]
      clear hw9
      clear c0 c1 c2 c3 c4 c5 d0 d1 d2 d3 d4 d5
      with_reducible refine ((cof9 ak nk capk zk pk jk HK.out.1 HK.out.2.2.2 a9 n9 cap9 z9 p9 i9 top HT.out.1 HT.out.2 HFl.out _ Xk.out.row Xl.out.row HK.out.2.1 HK.out.2.2.1).mono fun _ _ h => h.ok HC.out).mono ?_
      rintro e v10 ⟨a10, n10, cap10, z10, p10, i10, rfl, hb, hr, hf, hx⟩
      obtain ⟨w10, hw⟩ : ∃ W, v10.alloc (.cells #[.slice a10 n10 cap10, .int .i64 p10, .int .i64 i10] 24) = W := ⟨_, rfl⟩
      have hz : Below ud.heap.size ud w10 := by rw [← hw]; exact hb.trans ((below_box _).mono hb.size)
      have Xk_10 := Lib.hid (Xk.out.under hz)
      have Xl_10 := Lib.hid (Xl.out.under hz)
      have HB_10 := Lib.hid (HBD.out.trans (hz.mono HBD.out.size))
      have Xy_10 := Lib.hid (show Bx w10 v10.heap.size a10 n10 cap10 p10 i10 z10 by rw [← hw]; exact Bx.new hr)
      have HFy := Lib.hid hf
      have hw10 := hw
      clear hb hr hf hx hz hw
      obtain ⟨c0, c1, c2, c3, c4, c5⟩ := Xk_10.out.box
      obtain ⟨d0, d1, d2, d3, d4, d5⟩ := Xl_10.out.box
      go_wp2_with fail
      try rw [hw10]
      clear hw10
      clear c0 c1 c2 c3 c4 c5 d0 d1 d2 d3 d4 d5
      with_reducible refine ((rmin9 ak nk capk zk pk jk HK.out.1 HK.out.2.2.2 a9 n9 cap9 z9 p9 i9 top HT.out.1 HT.out.2 HFl.out _ Xk_10.out.row Xl_10.out.row).mono fun _ _ h => h.ok HC.out).mono ?_
      rintro e v11 ⟨a11, n11, cap11, z11, p11, i11, rfl, hb, hr, hf, hx⟩
      obtain ⟨w11, hw⟩ : ∃ W, v11.alloc (.cells #[.slice a11 n11 cap11, .int .i64 p11, .int .i64 i11] 24) = W := ⟨_, rfl⟩
      have hz : Below w10.heap.size w10 w11 := by rw [← hw]; exact hb.trans ((below_box _).mono hb.size)
      have Xk_11 := Lib.hid (Xk_10.out.under hz)
      have Xl_11 := Lib.hid (Xl_10.out.under hz)
      have Xy_11 := Lib.hid (Xy_10.out.under hz)
      have HB_11 := Lib.hid (HB_10.out.trans (hz.mono HB_10.out.size))
      have Xz_11 := Lib.hid (show Bx w11 v11.heap.size a11 n11 cap11 p11 i11 z11 by rw [← hw]; exact Bx.new hr)
      have HFz := Lib.hid hf
      have hw11 := hw
      clear hb hr hf hx hz hw
      obtain ⟨c0, c1, c2, c3, c4, c5⟩ := Xy_11.out.box
      obtain ⟨d0, d1, d2, d3, d4, d5⟩ := Xz_11.out.box
      go_wp2_with fail
      try rw [hw11]
      clear hw11
      clear c0 c1 c2 c3 c4 c5 d0 d1 d2 d3 d4 d5
      with_reducible refine (same_at HFy.out HFz.out _ Xy_11.out.row Xz_11.out.row).mono ?_
      rintro e w12 ⟨rfl, hb⟩
      have Xk_12 := Lib.hid (Xk_11.out.under hb)
      have Xl_12 := Lib.hid (Xl_11.out.under hb)
      have Xy_12 := Lib.hid (Xy_11.out.under hb)
      have Xz_12 := Lib.hid (Xz_11.out.under hb)
      have HB_12 := Lib.hid (HB_11.out.trans (hb.mono HB_11.out.size))
      have SY12 := Lib.hid hb.size
      clear hb
      go_wp2_with fail
      with_reducible refine (awake7 _).mono ?_
      rintro e w13 ⟨rfl, hb⟩
      have HBZ := Lib.hid (HB_12.out.trans (hb.mono HB_12.out.size))
      clear hb
      go_wp2_with fail
      go_ret
      exact ⟨rfl, HBZ.out⟩
    · have HC := Lib.hid hc
      clear hc
      obtain ⟨c0, c1, c2, c3, c4, c5⟩ := Xk.out.box
      obtain ⟨d0, d1, d2, d3, d4, d5⟩ := Xl.out.box
      go_wp2_with fail
      try rw [hw9]
      clear hw9
      clear c0 c1 c2 c3 c4 c5 d0 d1 d2 d3 d4 d5
      with_reducible refine ((cof9 ak nk capk zk pk jk HK.out.1 HK.out.2.2.2 a9 n9 cap9 z9 p9 i9 top HT.out.1 HT.out.2 HFl.out _ Xk.out.row Xl.out.row HK.out.2.1 HK.out.2.2.1).mono fun _ _ h => h.no HC.out).mono ?_
      rintro e v10 ⟨rfl, hb⟩
      obtain ⟨w10, hw⟩ : ∃ W, v10.alloc (.cells #[.slice none 0 0, .int .i64 0, .int .i64 0] 24) = W := ⟨_, rfl⟩
      have hz : Below ud.heap.size ud w10 := by rw [← hw]; exact hb.trans ((below_box _).mono hb.size)
      have Xk_10 := Lib.hid (Xk.out.under hz)
      have Xl_10 := Lib.hid (Xl.out.under hz)
      have HB_10 := Lib.hid (HBD.out.trans (hz.mono HBD.out.size))
      have Xy_10 := Lib.hid (show Bx w10 v10.heap.size none 0 0 ((0 : Nat)) 0 [] by rw [← hw]; exact Bx.new (rowZ_none _))
      have HWK10 := Lib.hid hw
      clear hb hz hw
      obtain ⟨c0, c1, c2, c3, c4, c5⟩ := Xk_10.out.box
      obtain ⟨d0, d1, d2, d3, d4, d5⟩ := Xl_10.out.box
      go_upto_region 16 with fail
      try rw [HWK10.out]
      go_wp2_with fail
      clear c0 c1 c2 c3 c4 c5 d0 d1 d2 d3 d4 d5
      with_reducible refine ((rmin9 ak nk capk zk pk jk HK.out.1 HK.out.2.2.2 a9 n9 cap9 z9 p9 i9 top HT.out.1 HT.out.2 HFl.out _ Xk_10.out.row Xl_10.out.row).mono fun _ _ h => h.no HC.out).mono ?_
      rintro e v11 ⟨rfl, hb⟩
      obtain ⟨w11, hw⟩ : ∃ W, v11.alloc (.cells #[.slice none 0 0, .int .i64 0, .int .i64 0] 24) = W := ⟨_, rfl⟩
      have hz : Below w10.heap.size w10 w11 := by rw [← hw]; exact hb.trans ((below_box _).mono hb.size)
      have Xk_11 := Lib.hid (Xk_10.out.under hz)
      have Xl_11 := Lib.hid (Xl_10.out.under hz)
      have Xy_11 := Lib.hid (Xy_10.out.under hz)
      have HB_11 := Lib.hid (HB_10.out.trans (hz.mono HB_10.out.size))
      have Xz_11 := Lib.hid (show Bx w11 v11.heap.size none 0 0 ((0 : Nat)) 0 [] by rw [← hw]; exact Bx.new (rowZ_none _))
      have HWK11 := Lib.hid hw
      clear hb hz hw
      go_upto_region 17 with fail
      try rw [HWK11.out]
      go_wp2_with fail
      with_reducible refine (awake7 _).mono ?_
      rintro e w12 ⟨rfl, hb⟩
      have HBZ := Lib.hid (HB_11.out.trans (hb.mono HB_11.out.size))
      clear hb
      go_wp2_with fail
      go_ret
      exact ⟨rfl, HBZ.out⟩
  · have HMN := Lib.hid (show min r2 r3 = r2 by rw [Int.min_eq_left (by omega)])
    have HM2 := Lib.hid (show 0 ≤ r2 ∧ r2 ≤ 1000 from ⟨by have := HN.out; omega, by have := HN.out; omega⟩)
    go_wp2_with fail
    try rw [hw5]
    clear hw5
    with_reducible refine (rline8 r2 HM2.out.1 HM2.out.2 _).mono ?_
    rintro e v6 ⟨a6, n6, cap6, z6, p6, i6, rfl, hb, hr, hf, hx⟩
    obtain ⟨w6, hw⟩ : ∃ W, v6.alloc (.cells #[.slice a6 n6 cap6, .int .i64 p6, .int .i64 i6] 24) = W := ⟨_, rfl⟩
    have hz : Below w5.heap.size w5 w6 := by rw [← hw]; exact hb.trans ((below_box _).mono hb.size)
    have Xf_6 := Lib.hid (Xf_5.out.under hz)
    have Xg_6 := Lib.hid (Xg_5.out.under hz)
    have Xh_6 := Lib.hid (Xh_5.out.under hz)
    have HB_6 := Lib.hid (HB_5.out.trans (hz.mono HB_5.out.size))
    have Xx_6 := Lib.hid (show Bx w6 v6.heap.size a6 n6 cap6 p6 i6 z6 by rw [← hw]; exact Bx.new hr)
    have HFx := Lib.hid hf
    have hw6 := hw
    have SZ6 := Lib.hid (show v6.heap.size < w6.heap.size ∧ w5.heap.size ≤ v6.heap.size from ⟨by rw [← hw]; simp, hb.size⟩)
    have RF6 := Lib.hid (And.intro hr.far hx)
    clear hb hr hf hx hz hw
    obtain ⟨c0, c1, c2, c3, c4, c5⟩ := Xx_6.out.box
    go_wp2_with fail
    try rw [hw6]
    clear hw6
    clear c0 c1 c2 c3 c4 c5
    with_reducible refine (rlater8 a6 n6 cap6 z6 p6 i6 r2 HM2.out.1 HM2.out.2 HFx.out ((km : Int) + (kn : Int)) (km + kn) (by omega) (by have := HM.out; omega) _ Xx_6.out.row).mono ?_
    rintro e v7 ⟨a7, n7, cap7, z7, p7, i7, rfl, hb, hr, hf, hx⟩
    have HFx2 := Lib.hid hf
    have RF7 := Lib.hid (And.intro hr.far hx)
    obtain ⟨w7, hw⟩ : ∃ W, (((v7.setCell ⟨v6.heap.size, 0, none⟩ (.slice a7 n7 cap7)).setCell ⟨v6.heap.size, 1, none⟩ (.int .i64 p7)).setCell ⟨v6.heap.size, 2, none⟩ (.int .i64 i7)) = W := ⟨_, rfl⟩
    have SZ7 := Lib.hid (show w7.heap.size = v7.heap.size ∧ w6.heap.size ≤ v7.heap.size from ⟨by rw [← hw]; simp [World.setCell], hb.size⟩)
    have Xf_7 := Lib.hid (by rw [← hw]; exact (Xf_6.out.under hb).set (F := v1.heap.size) (G := v6.heap.size) (by have q0 := SZ1.out; have q1 := SZ2.out; have q2 := SZ3.out; have q3 := SZ4.out; have q4 := SZ5.out; have q5 := SZ6.out; have q6 := SZ7.out; omega) (fun x hx9 hn9 => by have q98 := RF3.out.1 x hx9 hn9; have q99 := RF3.out.2 x hx9; have q0 := SZ1.out; have q1 := SZ2.out; have q2 := SZ3.out; have q3 := SZ4.out; have q4 := SZ5.out; have q5 := SZ6.out; have q6 := SZ7.out; omega) (.slice a7 n7 cap7) (.int .i64 p7) (.int .i64 i7) : Bx w7 v1.heap.size _ _ _ _ _ _)
    have Xg_7 := Lib.hid (by rw [← hw]; exact (Xg_6.out.under hb).set (F := v2.heap.size) (G := v6.heap.size) (by have q0 := SZ1.out; have q1 := SZ2.out; have q2 := SZ3.out; have q3 := SZ4.out; have q4 := SZ5.out; have q5 := SZ6.out; have q6 := SZ7.out; omega) (fun x hx9 hn9 => by have q98 := RF4.out.1 x hx9 hn9; have q99 := RF4.out.2 x hx9; have q0 := SZ1.out; have q1 := SZ2.out; have q2 := SZ3.out; have q3 := SZ4.out; have q4 := SZ5.out; have q5 := SZ6.out; have q6 := SZ7.out; omega) (.slice a7 n7 cap7) (.int .i64 p7) (.int .i64 i7) : Bx w7 v2.heap.size _ _ _ _ _ _)
    have Xh_7 := Lib.hid (by rw [← hw]; exact (Xh_6.out.under hb).set (F := v5.heap.size) (G := v6.heap.size) (by have q0 := SZ1.out; have q1 := SZ2.out; have q2 := SZ3.out; have q3 := SZ4.out; have q4 := SZ5.out; have q5 := SZ6.out; have q6 := SZ7.out; omega) (fun x hx9 hn9 => by have q98 := RF5.out.1 x hx9 hn9; have q99 := RF5.out.2 x hx9; have q0 := SZ1.out; have q1 := SZ2.out; have q2 := SZ3.out; have q3 := SZ4.out; have q4 := SZ5.out; have q5 := SZ6.out; have q6 := SZ7.out; omega) (.slice a7 n7 cap7) (.int .i64 p7) (.int .i64 i7) : Bx w7 v5.heap.size _ _ _ _ _ _)
    obtain ⟨y0, y1, y2, y3, y4, y5⟩ := (Xx_6.out.under hb).box
    have Xx_7 := Lib.hid (show Bx w7 v6.heap.size a7 n7 cap7 p7 i7 z7 by rw [← hw]; exact (Xx_6.out.under hb).put hr (fun x hx9 hn9 => by have q99 := RF7.out.2 x hx9; have q0 := SZ1.out; have q1 := SZ2.out; have q2 := SZ3.out; have q3 := SZ4.out; have q4 := SZ5.out; have q5 := SZ6.out; have q6 := SZ7.out; omega))
    have HB_7 := Lib.hid (show Below u5.heap.size u5 w7 by rw [← hw]; exact below_set3 (HB_6.out.trans (hb.mono HB_6.out.size)) (by have q0 := SZ1.out; have q1 := SZ2.out; have q2 := SZ3.out; have q3 := SZ4.out; have q4 := SZ5.out; have q5 := SZ6.out; have q6 := SZ7.out; have q97 := HU.out.size; omega) _ _ _)
    have hw7 := hw
    clear hb hr hf hx hw
    have HFh2 := Lib.hid (show EForm z5 p5 i5 (lineE r2 (km + kn)) by have := HFh.out; rwa [HMN.out] at this)
    clear hlt
    obtain ⟨c0, c1, c2, c3, c4, c5⟩ := Xh_7.out.box
    obtain ⟨d0, d1, d2, d3, d4, d5⟩ := Xx_7.out.box
    go_wp2_with fail
    try rw [hw7]
    clear hw7
    clear c0 c1 c2 c3 c4 c5 d0 d1 d2 d3 d4 d5
    clear y0 y1 y2 y3 y4 y5
    with_reducible refine (same_at HFh2.out HFx2.out _ Xh_7.out.row Xx_7.out.row).mono ?_
    rintro e w8 ⟨rfl, hb⟩
    have Xf_8 := Lib.hid (Xf_7.out.under hb)
    have Xg_8 := Lib.hid (Xg_7.out.under hb)
    have Xh_8 := Lib.hid (Xh_7.out.under hb)
    have Xx_8 := Lib.hid (Xx_7.out.under hb)
    have HB_8 := Lib.hid (HB_7.out.trans (hb.mono HB_7.out.size))
    have SY8 := Lib.hid hb.size
    clear hb
    go_wp2_with fail
    have HSA := Lib.hid (HS5.out.under HB_8.out)
    have HBA := Lib.hid (HB5.out.trans (HB_8.out.mono HB5.out.size))
    refine (n_any 60 (by omega) (by omega) _ ra rn rc _ HSA.out).mono ?_
    rintro e ub ⟨top, ⟨top0, top1⟩, rfl, hsb, heb⟩
    have HSB := Lib.hid hsb
    have HBB := Lib.hid (HBA.out.trans (heb.below (Nat.le_refl _)))
    have HT := Lib.hid (show 0 ≤ top ∧ top ≤ 1000 from ⟨top0, by omega⟩)
    have HUB := Lib.hid (Below.refl ub.heap.size ub)
    clear hsb heb top0 top1
    go_wp2_with fail
    with_reducible refine (rflat7 top HT.out.1 HT.out.2 _).mono ?_
    rintro e v9 ⟨a9, n9, cap9, z9, p9, i9, rfl, hb, hr, hf, hx⟩
    obtain ⟨w9, hw⟩ : ∃ W, v9.alloc (.cells #[.slice a9 n9 cap9, .int .i64 p9, .int .i64 i9] 24) = W := ⟨_, rfl⟩
    have hz : Below ub.heap.size ub w9 := by rw [← hw]; exact hb.trans ((below_box _).mono hb.size)
    have HB_9 := Lib.hid (HUB.out.trans (hz.mono HUB.out.size))
    have Xl_9 := Lib.hid (show Bx w9 v9.heap.size a9 n9 cap9 p9 i9 z9 by rw [← hw]; exact Bx.new hr)
    have HFl := Lib.hid hf
    have hw9 := hw
    have SZ9 := Lib.hid (show v9.heap.size < w9.heap.size ∧ ub.heap.size ≤ v9.heap.size from ⟨by rw [← hw]; simp, hb.size⟩)
    have RF9 := Lib.hid (And.intro hr.far hx)
    clear hb hr hf hx hz hw
    go_wp2_with fail
    try rw [hw9]
    clear hw9
    have HSC := Lib.hid (HSB.out.under HB_9.out)
    have HBC := Lib.hid (HBB.out.trans (HB_9.out.mono HBB.out.size))
    refine (zero_any 6 (by omega) (by omega) _ ra rn rc _ HSC.out).mono ?_
    rintro e uc ⟨ak, nk, capk, zk, pk, jk, rfl, hsc, hec, hrc, gk, hfk, h0k, smk, hxk⟩
    have HK := Lib.hid (And.intro gk (And.intro hfk (And.intro h0k smk.2.1)))
    obtain ⟨ud, hw⟩ : ∃ W, uc.alloc (.cells #[.slice ak nk capk, .int .i64 pk, .int .i64 jk] 24) = W := ⟨_, rfl⟩
    have hz : Below uc.heap.size uc ud := by rw [← hw]; exact below_box _
    have hlt : W.heap.size < ub.heap.size := lt_of_cell (src_cell HSB.out)
    have Xk := Lib.hid (show Bx ud uc.heap.size ak nk capk pk jk zk by rw [← hw]; exact Bx.new hrc)
    have Xl := Lib.hid ((Xl_9.out.apart hec (by have := SZ9.out; omega) (fun x hx => by have := RF9.out.2 x hx; omega)).under hz)
    have hbd := HBC.out.trans (hec.below (Nat.le_refl _) HBC.out.size)
    have HBD := Lib.hid (hbd.trans (hz.mono hbd.size))
    have hw9 := hw
    clear hsc hec hrc gk hfk h0k smk hxk hz hlt hbd hw
    by_cases hc : ECan (eMin zk pk jk z9 p9 i9)
    · have HC := Lib.hid hc
      clear hc
      obtain ⟨c0, c1, c2, c3, c4, c5⟩ := Xk.out.box
      obtain ⟨d0, d1, d2, d3, d4, d5⟩ := Xl.out.box
      go_wp2_with fail
      try rw [hw9]
      clear hw9
      clear c0 c1 c2 c3 c4 c5 d0 d1 d2 d3 d4 d5
      with_reducible refine ((cof9 ak nk capk zk pk jk HK.out.1 HK.out.2.2.2 a9 n9 cap9 z9 p9 i9 top HT.out.1 HT.out.2 HFl.out _ Xk.out.row Xl.out.row HK.out.2.1 HK.out.2.2.1).mono fun _ _ h => h.ok HC.out).mono ?_
      rintro e v10 ⟨a10, n10, cap10, z10, p10, i10, rfl, hb, hr, hf, hx⟩
      obtain ⟨w10, hw⟩ : ∃ W, v10.alloc (.cells #[.slice a10 n10 cap10, .int .i64 p10, .int .i64 i10] 24) = W := ⟨_, rfl⟩
      have hz : Below ud.heap.size ud w10 := by rw [← hw]; exact hb.trans ((below_box _).mono hb.size)
      have Xk_10 := Lib.hid (Xk.out.under hz)
      have Xl_10 := Lib.hid (Xl.out.under hz)
      have HB_10 := Lib.hid (HBD.out.trans (hz.mono HBD.out.size))
      have Xy_10 := Lib.hid (show Bx w10 v10.heap.size a10 n10 cap10 p10 i10 z10 by rw [← hw]; exact Bx.new hr)
      have HFy := Lib.hid hf
      have hw10 := hw
      clear hb hr hf hx hz hw
      obtain ⟨c0, c1, c2, c3, c4, c5⟩ := Xk_10.out.box
      obtain ⟨d0, d1, d2, d3, d4, d5⟩ := Xl_10.out.box
      go_wp2_with fail
      try rw [hw10]
      clear hw10
      clear c0 c1 c2 c3 c4 c5 d0 d1 d2 d3 d4 d5
      with_reducible refine ((rmin9 ak nk capk zk pk jk HK.out.1 HK.out.2.2.2 a9 n9 cap9 z9 p9 i9 top HT.out.1 HT.out.2 HFl.out _ Xk_10.out.row Xl_10.out.row).mono fun _ _ h => h.ok HC.out).mono ?_
      rintro e v11 ⟨a11, n11, cap11, z11, p11, i11, rfl, hb, hr, hf, hx⟩
      obtain ⟨w11, hw⟩ : ∃ W, v11.alloc (.cells #[.slice a11 n11 cap11, .int .i64 p11, .int .i64 i11] 24) = W := ⟨_, rfl⟩
      have hz : Below w10.heap.size w10 w11 := by rw [← hw]; exact hb.trans ((below_box _).mono hb.size)
      have Xk_11 := Lib.hid (Xk_10.out.under hz)
      have Xl_11 := Lib.hid (Xl_10.out.under hz)
      have Xy_11 := Lib.hid (Xy_10.out.under hz)
      have HB_11 := Lib.hid (HB_10.out.trans (hz.mono HB_10.out.size))
      have Xz_11 := Lib.hid (show Bx w11 v11.heap.size a11 n11 cap11 p11 i11 z11 by rw [← hw]; exact Bx.new hr)
      have HFz := Lib.hid hf
      have hw11 := hw
      clear hb hr hf hx hz hw
      obtain ⟨c0, c1, c2, c3, c4, c5⟩ := Xy_11.out.box
      obtain ⟨d0, d1, d2, d3, d4, d5⟩ := Xz_11.out.box
      go_wp2_with fail
      try rw [hw11]
      clear hw11
      clear c0 c1 c2 c3 c4 c5 d0 d1 d2 d3 d4 d5
      with_reducible refine (same_at HFy.out HFz.out _ Xy_11.out.row Xz_11.out.row).mono ?_
      rintro e w12 ⟨rfl, hb⟩
      have Xk_12 := Lib.hid (Xk_11.out.under hb)
      have Xl_12 := Lib.hid (Xl_11.out.under hb)
      have Xy_12 := Lib.hid (Xy_11.out.under hb)
      have Xz_12 := Lib.hid (Xz_11.out.under hb)
      have HB_12 := Lib.hid (HB_11.out.trans (hb.mono HB_11.out.size))
      have SY12 := Lib.hid hb.size
      clear hb
      go_wp2_with fail
      with_reducible refine (awake7 _).mono ?_
      rintro e w13 ⟨rfl, hb⟩
      have HBZ := Lib.hid (HB_12.out.trans (hb.mono HB_12.out.size))
      clear hb
      go_wp2_with fail
      go_ret
      exact ⟨rfl, HBZ.out⟩
    · have HC := Lib.hid hc
      clear hc
      obtain ⟨c0, c1, c2, c3, c4, c5⟩ := Xk.out.box
      obtain ⟨d0, d1, d2, d3, d4, d5⟩ := Xl.out.box
      go_wp2_with fail
      try rw [hw9]
      clear hw9
      clear c0 c1 c2 c3 c4 c5 d0 d1 d2 d3 d4 d5
      with_reducible refine ((cof9 ak nk capk zk pk jk HK.out.1 HK.out.2.2.2 a9 n9 cap9 z9 p9 i9 top HT.out.1 HT.out.2 HFl.out _ Xk.out.row Xl.out.row HK.out.2.1 HK.out.2.2.1).mono fun _ _ h => h.no HC.out).mono ?_
      rintro e v10 ⟨rfl, hb⟩
      obtain ⟨w10, hw⟩ : ∃ W, v10.alloc (.cells #[.slice none 0 0, .int .i64 0, .int .i64 0] 24) = W := ⟨_, rfl⟩
      have hz : Below ud.heap.size ud w10 := by rw [← hw]; exact hb.trans ((below_box _).mono hb.size)
      have Xk_10 := Lib.hid (Xk.out.under hz)
      have Xl_10 := Lib.hid (Xl.out.under hz)
      have HB_10 := Lib.hid (HBD.out.trans (hz.mono HBD.out.size))
      have Xy_10 := Lib.hid (show Bx w10 v10.heap.size none 0 0 ((0 : Nat)) 0 [] by rw [← hw]; exact Bx.new (rowZ_none _))
      have HWK10 := Lib.hid hw
      clear hb hz hw
      obtain ⟨c0, c1, c2, c3, c4, c5⟩ := Xk_10.out.box
      obtain ⟨d0, d1, d2, d3, d4, d5⟩ := Xl_10.out.box
      go_upto_region 16 with fail
      try rw [HWK10.out]
      go_wp2_with fail
      clear c0 c1 c2 c3 c4 c5 d0 d1 d2 d3 d4 d5
      with_reducible refine ((rmin9 ak nk capk zk pk jk HK.out.1 HK.out.2.2.2 a9 n9 cap9 z9 p9 i9 top HT.out.1 HT.out.2 HFl.out _ Xk_10.out.row Xl_10.out.row).mono fun _ _ h => h.no HC.out).mono ?_
      rintro e v11 ⟨rfl, hb⟩
      obtain ⟨w11, hw⟩ : ∃ W, v11.alloc (.cells #[.slice none 0 0, .int .i64 0, .int .i64 0] 24) = W := ⟨_, rfl⟩
      have hz : Below w10.heap.size w10 w11 := by rw [← hw]; exact hb.trans ((below_box _).mono hb.size)
      have Xk_11 := Lib.hid (Xk_10.out.under hz)
      have Xl_11 := Lib.hid (Xl_10.out.under hz)
      have Xy_11 := Lib.hid (Xy_10.out.under hz)
      have HB_11 := Lib.hid (HB_10.out.trans (hz.mono HB_10.out.size))
      have Xz_11 := Lib.hid (show Bx w11 v11.heap.size none 0 0 ((0 : Nat)) 0 [] by rw [← hw]; exact Bx.new (rowZ_none _))
      have HWK11 := Lib.hid hw
      clear hb hz hw
      go_upto_region 17 with fail
      try rw [HWK11.out]
      go_wp2_with fail
      with_reducible refine (awake7 _).mono ?_
      rintro e w12 ⟨rfl, hb⟩
      have HBZ := Lib.hid (HB_11.out.trans (hb.mono HB_11.out.size))
      clear hb
      go_wp2_with fail
      go_ret
      exact ⟨rfl, HBZ.out⟩

end Go.Proofs.Ytladmpoopfabdaa
