/- The walk of PointwiseValues. By the verifier's side. -/
import Derived.Test.YtenfhjmaljleoaaJPwV
import Derived.Test.YtenfhjmaljleoaaJPwS
import Derived.Test.YtenfhjmaljleoaaJBaseApartPickKeepS
namespace Go.Proofs.Ytenfhjmaljleoaa
open Go.RowKit
set_option linter.unusedSimpArgs false

set_option maxRecDepth 100000 in
set_option maxHeartbeats 6400000 in
theorem pointwiseValues_walk (W : World) (a : Option Addr) (n cap : Nat) (hrow : RowAt W a n cap) (at0 : Int) (hat : In64 at0) :
    Calls Try.prog 10 #[.slice a n cap, .int .i64 at0] W fun e w' => e = .returned (.bool true) ∧ Below W.heap.size W w' := by
  have HR := Lib.hid hrow
  have HAT := Lib.hid hat
  clear hrow hat
  go_enter Try.func10, Try.ntmps10
  go_wp2_with fail
  refine (new_any a n cap _ HR.out).mono ?_
  rintro e u1 ⟨rfl, hb1, hz1, ra, rn, rc, hs1⟩
  have HB1 := Lib.hid hb1
  have HS1 := Lib.hid hs1
  have Z1 := Lib.hid hz1
  clear hb1 hz1 hs1
  go_wp2_with fail
  refine (curve_any 9 (by omega) (by omega) _ ra rn rc _ HS1.out).mono ?_
  rintro e u2 ⟨af, nf, capf, zf, pf, jf, rfl, hs2, he2, hr2, ok2, hx2⟩
  have OF := Lib.hid ok2
  have HS2 := Lib.hid hs2
  have R2 := Lib.hid hr2
  have X2 := Lib.hid (show ∀ x, af = some x → ¬ x.block = W.heap.size from fun x hx => by have := hx2 x hx; have := Z1.out; omega)
  have HB2 := Lib.hid (HB1.out.trans (he2.below (Nat.le_refl _) HB1.out.size))
  clear hs2 he2 hr2 ok2 hx2
  go_wp2_with fail
  refine (curve_any 9 (by omega) (by omega) _ ra rn rc _ HS2.out).mono ?_
  rintro e u3 ⟨ag, ng, capg, zg, pg, jg, rfl, hs3, he3, hr3, ok3, hx3⟩
  have OG := Lib.hid ok3
  have HS3 := Lib.hid hs3
  have R3 := Lib.hid hr3
  have R23 := Lib.hid (R2.out.apart he3 X2.out)
  have X3 := Lib.hid (show ∀ x, ag = some x → ¬ x.block = W.heap.size from fun x hx => by have := hx3 x hx; have := Z1.out; have := he3.size; have := HB2.out.size; have h9 : W.heap.size < u2.heap.size := lt_of_cell (src_cell HS2.out); omega)
  have HB3 := Lib.hid (HB2.out.trans (he3.below (Nat.le_refl _) HB2.out.size))
  clear hs3 he3 hr3 ok3 hx3
  obtain ⟨w0, hw⟩ : ∃ W, (u3.alloc (.cells #[.slice af nf capf, .int .i64 pf, .int .i64 jf] 51)).alloc (.cells #[.slice ag ng capg, .int .i64 pg, .int .i64 jg] 51) = W := ⟨_, rfl⟩
  have hz : Below u3.heap.size u3 w0 := by rw [← hw]; exact (below_box _).alloc (by simp) _
  have Xf := Lib.hid (show Bx w0 u3.heap.size af nf capf pf jf zf by rw [← hw]; exact (Bx.new R23.out).under (below_box _))
  have Xg := Lib.hid (show Bx w0 (u3.heap.size + 1) ag ng capg pg jg zg by
    rw [← hw]
    have := Bx.new (p := pg) (inc := jg) (R3.out.alloc (.cells #[.slice af nf capf, .int .i64 pf, .int .i64 jf] 51))
    rwa [show (u3.alloc (.cells #[.slice af nf capf, .int .i64 pf, .int .i64 jf] 51)).heap.size = u3.heap.size + 1 by simp] at this)
  have HB4 := Lib.hid (HB3.out.trans (hz.mono HB3.out.size))
  have SR0 := Lib.hid (src_under HS3.out hz)
  have SW := Lib.hid (show W.heap.size < u3.heap.size ∧ u3.heap.size ≤ w0.heap.size from ⟨lt_of_cell (src_cell HS3.out), hz.size⟩)
  have hw0 := hw
  clear hw hz
  obtain ⟨c0, c1, c2, c3, c4, c5⟩ := Xf.out.box
  obtain ⟨d0, d1, d2, d3, d4, d5⟩ := Xg.out.box
  go_wp2_with fail
  try rw [hw0]
  clear hw0
  clear c0 c1 c2 c3 c4 c5 d0 d1 d2 d3 d4 d5
  with_reducible refine (sum_at af nf capf zf pf jf OF.out.good ag ng capg zg pg jg OG.out.good (by have := OF.out.p8; omega) (by have := OG.out.p8; omega) rfl (sum_can OF.out OG.out (by omega)) _ Xf.out.row Xg.out.row).mono ?_
  rintro e v1 ⟨a1, n1, cap1, z1, p1, i1, rfl, hb, hr, hf, hx⟩
  obtain ⟨w1, hw⟩ : ∃ W, v1.alloc (.cells #[.slice a1 n1 cap1, .int .i64 p1, .int .i64 i1] 51) = W := ⟨_, rfl⟩
  have hz : Below w0.heap.size w0 w1 := by rw [← hw]; exact hb.trans ((below_box _).mono hb.size)
  have Xf_1 := Lib.hid (Xf.out.under hz)
  have Xg_1 := Lib.hid (Xg.out.under hz)
  have HB_1 := Lib.hid (HB4.out.trans (hz.mono HB4.out.size))
  have Xp_1 := Lib.hid (show Bx w1 v1.heap.size a1 n1 cap1 p1 i1 z1 by rw [← hw]; exact Bx.new hr)
  have HFp := Lib.hid hf
  have hw1 := hw
  have SZW1 := Lib.hid (show v1.heap.size < w1.heap.size by rw [← hw]; simp)
  have SR1 := Lib.hid (src_under SR0.out hz)
  have SX1 := Lib.hid (And.intro hx hb.size)
  clear hb hr hf hx hz hw
  obtain ⟨c0, c1, c2, c3, c4, c5⟩ := Xf_1.out.box
  obtain ⟨d0, d1, d2, d3, d4, d5⟩ := Xg_1.out.box
  go_wp2_with fail
  try rw [hw1]
  clear hw1
  clear c0 c1 c2 c3 c4 c5 d0 d1 d2 d3 d4 d5
  with_reducible refine ((min_at af nf capf zf pf jf OF.out.good ag ng capg zg pg jg OG.out.good (by have := OF.out.p8; omega) (by have := OG.out.p8; omega) rfl _ Xf_1.out.row Xg_1.out.row).mono fun _ _ h => h.mx).mono ?_
  rintro e v2 ⟨a2, n2, cap2, z2, p2, i2, c2, rfl, hb, hr, hm, hc, hx⟩
  obtain ⟨w2, hw⟩ : ∃ W, v2.alloc (.cells #[.slice a2 n2 cap2, .int .i64 p2, .int .i64 i2] 51) = W := ⟨_, rfl⟩
  have hz : Below w1.heap.size w1 w2 := by rw [← hw]; exact hb.trans ((below_box _).mono hb.size)
  have Xf_2 := Lib.hid (Xf_1.out.under hz)
  have Xg_2 := Lib.hid (Xg_1.out.under hz)
  have Xp_2 := Lib.hid (Xp_1.out.under hz)
  have HB_2 := Lib.hid (HB_1.out.trans (hz.mono HB_1.out.size))
  have Xq_2 := Lib.hid (show BxI w2 v2.heap.size a2 n2 cap2 p2 i2 z2 by rw [← hw]; exact BxI.new hr)
  have SZW2 := Lib.hid (show v2.heap.size < w2.heap.size by rw [← hw]; simp)
  have SR2 := Lib.hid (src_under SR1.out hz)
  have SX2 := Lib.hid (And.intro hx hb.size)
  have HM2 := Lib.hid hm
  have HC2 := Lib.hid hc
  have hw2 := hw
  clear hb hr hm hc hx hz hw
  obtain ⟨c0, c1, c2, c3, c4, c5⟩ := Xf_2.out.box
  obtain ⟨d0, d1, d2, d3, d4, d5⟩ := Xg_2.out.box
  go_wp2_with fail
  try rw [hw2]
  clear hw2
  clear c0 c1 c2 c3 c4 c5 d0 d1 d2 d3 d4 d5
  with_reducible refine ((max_at af nf capf zf pf jf OF.out.good ag ng capg zg pg jg OG.out.good (by have := OF.out.p8; omega) (by have := OG.out.p8; omega) rfl _ Xf_2.out.row Xg_2.out.row).mono fun _ _ h => h.mx).mono ?_
  rintro e v3 ⟨a3, n3, cap3, z3, p3, i3, c3, rfl, hb, hr, hm, hc, hx⟩
  obtain ⟨w3, hw⟩ : ∃ W, v3.alloc (.cells #[.slice a3 n3 cap3, .int .i64 p3, .int .i64 i3] 51) = W := ⟨_, rfl⟩
  have hz : Below w2.heap.size w2 w3 := by rw [← hw]; exact hb.trans ((below_box _).mono hb.size)
  have Xf_3 := Lib.hid (Xf_2.out.under hz)
  have Xg_3 := Lib.hid (Xg_2.out.under hz)
  have Xp_3 := Lib.hid (Xp_2.out.under hz)
  have Xq_3 := Lib.hid (Xq_2.out.under hz)
  have HB_3 := Lib.hid (HB_2.out.trans (hz.mono HB_2.out.size))
  have Xr_3 := Lib.hid (show BxI w3 v3.heap.size a3 n3 cap3 p3 i3 z3 by rw [← hw]; exact BxI.new hr)
  have SZW3 := Lib.hid (show v3.heap.size < w3.heap.size by rw [← hw]; simp)
  have SR3 := Lib.hid (src_under SR2.out hz)
  have SX3 := Lib.hid (And.intro hx hb.size)
  have HM3 := Lib.hid hm
  have HC3 := Lib.hid hc
  have hw3 := hw
  clear hb hr hm hc hx hz hw
  rcases HC2.out with rfl | rfl <;> rcases HC3.out with rfl | rfl
  · go_wp2_with fail
    try rw [hw3]
    clear hw3
    refine (mod_any at0 1048576 HAT.out (by omega) (by omega) _).mono ?_
    rintro e w4 ⟨rfl, rfl⟩
    obtain ⟨m0, hm0⟩ : ∃ m, at0 % 1048576 = m := ⟨_, rfl⟩
    have hm1 : 0 ≤ m0 ∧ m0 < 1048576 := by rw [← hm0]; exact ⟨Int.emod_nonneg _ (by omega), Int.emod_lt_of_pos _ (by omega)⟩
    rw [hm0]
    clear hm0
    go_wp2_with fail
    refine (n_any 30 (by omega) (by omega) _ ra rn rc _ SR3.out).mono ?_
    rintro e w5 ⟨r1, ⟨r10, r11⟩, rfl, hs5, he5⟩
    have SR5 := Lib.hid hs5
    have hne : u3.heap.size ≠ W.heap.size ∧ u3.heap.size + 1 ≠ W.heap.size ∧ v1.heap.size ≠ W.heap.size ∧ v2.heap.size ≠ W.heap.size ∧ v3.heap.size ≠ W.heap.size := by
      have h1 := SW.out; have h2 := SX1.out.2; have h3 := SX2.out.2; have h4 := SX3.out.2; have h5 := HB_1.out.size; have h6 := HB_2.out.size; have h7 := SZW1.out; have h8 := SZW2.out; omega
    have FX1 := Lib.hid (show ∀ x, a1 = some x → ¬ x.block = W.heap.size from fun x hx => by have := SX1.out.1 x hx; have := SW.out; omega)
    have FX2 := Lib.hid (show ∀ x, a2 = some x → ¬ x.block = W.heap.size from fun x hx => by have := SX2.out.1 x hx; have := SW.out; have := SX1.out.2; have := SZW1.out; omega)
    have FX3 := Lib.hid (show ∀ x, a3 = some x → ¬ x.block = W.heap.size from fun x hx => by have := SX3.out.1 x hx; have := SW.out; have := SX1.out.2; have := SZW1.out; have := SX2.out.2; have := SZW2.out; omega)
    have Y5 := Lib.hid (And.intro (Xf_3.out.apart he5.apart hne.1 X2.out) (And.intro (Xg_3.out.apart he5.apart hne.2.1 X3.out) (And.intro (Xp_3.out.apart he5.apart hne.2.2.1 FX1.out) (And.intro (Xq_3.out.apart he5.apart hne.2.2.2.1 FX2.out) (Xr_3.out.apart he5.apart hne.2.2.2.2 FX3.out)))))
    have HB5 := Lib.hid (HB_3.out.trans (he5.below (Nat.le_refl _)))
    clear hs5 he5
    go_wp2_with fail
    refine (n_any 900 (by omega) (by omega) _ ra rn rc _ SR5.out).mono ?_
    rintro e w6 ⟨r2, ⟨r20, r21⟩, rfl, hs6, he6⟩
    have hl6 := rowZ_lit w6 [m0, r1, r2, 0] 3 (by intro z hz; simp at hz; rcases hz with rfl | rfl | rfl | rfl <;> exact ⟨by omega, by omega⟩) (by show 4 ≤ 1000; decide)
    obtain ⟨w7, hw⟩ : ∃ W, w6.alloc (.cells #[.int .i64 m0, .int .i64 r1, .int .i64 r2, .int .i64 0] 3) = W := ⟨_, rfl⟩
    have hz : Below w6.heap.size w6 w7 := by rw [← hw]; exact below_box _
    have HF7 := Lib.hid (show (Five w7 u3.heap.size (u3.heap.size + 1) v1.heap.size v2.heap.size v3.heap.size w6.heap.size af nf capf pf jf zf ag ng capg pg jg zg a1 n1 cap1 p1 i1 z1 a2 n2 cap2 p2 i2 z2 a3 n3 cap3 p3 i3 z3 [m0, r1, r2, 0]) from ⟨(Y5.out.1.apart he6.apart hne.1 X2.out).under hz, (Y5.out.2.1.apart he6.apart hne.2.1 X3.out).under hz, (Y5.out.2.2.1.apart he6.apart hne.2.2.1 FX1.out).under hz, (Y5.out.2.2.2.1.apart he6.apart hne.2.2.2.1 FX2.out).under hz, (Y5.out.2.2.2.2.apart he6.apart hne.2.2.2.2 FX3.out).under hz, by rw [← hw]; exact hl6⟩)
    have hb6 := HB5.out.trans (he6.below (Nat.le_refl _))
    have HB7 := Lib.hid (hb6.trans (hz.mono hb6.size))
    have HTS := Lib.hid (show ∀ i, i < 4 → ∃ t : Nat, ([m0, r1, r2, 0] : List Int).getD i 0 = t ∧ t < 1048576 from fun i hi => by
      have : i = 0 ∨ i = 1 ∨ i = 2 ∨ i = 3 := by omega
      rcases this with rfl | rfl | rfl | rfl
      · exact ⟨m0.toNat, by show m0 = _; omega, by omega⟩
      · exact ⟨r1.toNat, by show r1 = _; omega, by omega⟩
      · exact ⟨r2.toNat, by show r2 = _; omega, by omega⟩
      · exact ⟨0, rfl, by omega⟩)
    have hw7 := hw
    clear hs6 he6 hl6 hw hz hb6 hne r10 r11 r20 r21 hm1
    go_wp2_with fail
    try rw [hw7]
    clear hw7
    go_loopw [72] (fun s72 wx => ∃ k : Nat, s72 = .int .i64 k ∧ k ≤ 4 ∧ Hid ((Five wx u3.heap.size (u3.heap.size + 1) v1.heap.size v2.heap.size v3.heap.size w6.heap.size af nf capf pf jf zf ag ng capg pg jg zg a1 n1 cap1 p1 i1 z1 a2 n2 cap2 p2 i2 z2 a3 n3 cap3 p3 i3 z3 [m0, r1, r2, 0]) ∧ Below W.heap.size W wx)) (fun s72 _ => 4 - (intOf s72).toNat)
    case atStart => exact ⟨0, by go_num, by omega, HF7.out, HB7.out⟩
    case round =>
      obtain ⟨k, rfl, hk, HK⟩ := hrel
      obtain ⟨wk, rfl⟩ : ∃ u : World, u = wr := ⟨_, rfl⟩
      by_cases hlt : k < 4
      · obtain ⟨t, ht0, ht1⟩ := HTS.out k hlt
        obtain ⟨x, hx, hcl⟩ := HK.out.1.t.cell k hlt
        obtain rfl : x = ⟨w6.heap.size, 0, none⟩ := (Option.some.inj hx).symm
        have ea : ((⟨w6.heap.size, 0, none⟩ : Addr).add k) = ⟨w6.heap.size, k, none⟩ := by unfold Addr.add; split <;> simp_all
        rw [ea, ht0] at hcl
        clear ea
        have hl4 : (k : Int) < 4 := by omega
        have T9 := Lib.hid (And.intro ht0 ht1)
        clear ht0 hx
        go_wp2_with fail
        clear hcl
        obtain ⟨x1, hx1⟩ : ∃ v, atC zf pf jf t = v := ⟨_, rfl⟩
        obtain ⟨x2, hx2⟩ : ∃ v, atC zg pg jg t = v := ⟨_, rfl⟩
        have HX1 := Lib.hid (And.intro hx1 hx2)
        have HMI := Lib.hid (show Mid x1 ∧ Mid x2 by rw [← hx1, ← hx2]; exact ⟨mid_far OF.out.good ht1, mid_far OG.out.good ht1⟩)
        have HSM := Lib.hid (show enc (eSum zf pf jf zg pg jg t) = plI x1 x2 by rw [← hx1, ← hx2]; exact sum_val OF.out.good OG.out.good (by omega))
        have HMN := Lib.hid (show enc (eMin zf pf jf zg pg jg t) = min x1 x2 by rw [← hx1, ← hx2]; exact min_val OF.out.good OG.out.good (by omega))
        have HMA := Lib.hid (show enc (eMax zf pf jf zg pg jg t) = max x1 x2 by rw [← hx1, ← hx2]; exact max_val OF.out.good OG.out.good (by omega))
        clear hx1 hx2
        have KS := Lib.hid (show ∀ u, (Five u u3.heap.size (u3.heap.size + 1) v1.heap.size v2.heap.size v3.heap.size w6.heap.size af nf capf pf jf zf ag ng capg pg jg zg a1 n1 cap1 p1 i1 z1 a2 n2 cap2 p2 i2 z2 a3 n3 cap3 p3 i3 z3 [m0, r1, r2, 0]) ∧ Below W.heap.size W u → (fun u => (u.cell? ⟨u3.heap.size, 0, none⟩ = some (.slice af nf capf) ∧ u.cell? ⟨u3.heap.size, 1, none⟩ = some (.int .i64 pf) ∧ u.cell? ⟨u3.heap.size, 2, none⟩ = some (.int .i64 jf)) ∧ (u.cell? ⟨u3.heap.size + 1, 0, none⟩ = some (.slice ag ng capg) ∧ u.cell? ⟨u3.heap.size + 1, 1, none⟩ = some (.int .i64 pg) ∧ u.cell? ⟨u3.heap.size + 1, 2, none⟩ = some (.int .i64 jg)) ∧ Hid ((Five u u3.heap.size (u3.heap.size + 1) v1.heap.size v2.heap.size v3.heap.size w6.heap.size af nf capf pf jf zf ag ng capg pg jg zg a1 n1 cap1 p1 i1 z1 a2 n2 cap2 p2 i2 z2 a3 n3 cap3 p3 i3 z3 [m0, r1, r2, 0]) ∧ Below W.heap.size W u)) u from fun u hu => ⟨⟨hu.1.f.box.c0, hu.1.f.box.c1, hu.1.f.box.c2⟩, ⟨hu.1.g.box.c0, hu.1.g.box.c1, hu.1.g.box.c2⟩, hu⟩)
        have O1 := Lib.hid (And.intro (HK.out.1.under (Below.drew (Below.refl _ _))) (Below.drew HK.out.2))
        refine wp_region_keeps (fun u => (u.cell? ⟨u3.heap.size, 0, none⟩ = some (.slice af nf capf) ∧ u.cell? ⟨u3.heap.size, 1, none⟩ = some (.int .i64 pf) ∧ u.cell? ⟨u3.heap.size, 2, none⟩ = some (.int .i64 jf)) ∧ (u.cell? ⟨u3.heap.size + 1, 0, none⟩ = some (.slice ag ng capg) ∧ u.cell? ⟨u3.heap.size + 1, 1, none⟩ = some (.int .i64 pg) ∧ u.cell? ⟨u3.heap.size + 1, 2, none⟩ = some (.int .i64 jg)) ∧ Hid ((Five u u3.heap.size (u3.heap.size + 1) v1.heap.size v2.heap.size v3.heap.size w6.heap.size af nf capf pf jf zf ag ng capg pg jg zg a1 n1 cap1 p1 i1 z1 a2 n2 cap2 p2 i2 z2 a3 n3 cap3 p3 i3 z3 [m0, r1, r2, 0]) ∧ Below W.heap.size W u)) 6 2 (by kernel_rfl) (by kernel_rfl) (KS.out _ O1.out) (fun hHeld0 => ?_)
        refine wpAnyK_take (i := 0) (v := ?_) rfl (by kernel_rfl) (fun _ _ _ h => h) (Or.inl ⟨by rfl, ?_⟩) (by assumption) ?_
        rotate_left
        · (intro w hSw; (try dsimp only at hSw); go_simp; try with_reducible rfl)
        try simp only [Act.put, List.getElem_toArray, List.getElem_cons_zero, List.getElem_cons_succ, List.setIfInBounds_toArray, List.set_cons_zero, List.set_cons_succ]
        refine wpAnyK_take (i := 1) (v := ?_) rfl (by kernel_rfl) (fun _ _ _ h => h) (Or.inl ⟨by rfl, ?_⟩) (by assumption) ?_
        rotate_left
        · (intro w hSw; (try dsimp only at hSw); go_simp; try with_reducible rfl)
        try simp only [Act.put, List.getElem_toArray, List.getElem_cons_zero, List.getElem_cons_succ, List.setIfInBounds_toArray, List.set_cons_zero, List.set_cons_succ]
        refine wpAnyK_take (i := 3) (v := ?_) rfl (by kernel_rfl) (fun _ _ _ h => h) (Or.inl ⟨by rfl, ?_⟩) (by assumption) ?_
        rotate_left
        · (intro w hSw; (try dsimp only at hSw); go_simp; try with_reducible rfl)
        try simp only [Act.put, List.getElem_toArray, List.getElem_cons_zero, List.getElem_cons_succ, List.setIfInBounds_toArray, List.set_cons_zero, List.set_cons_succ]
        refine wpAnyK_take (i := 4) (v := ?_) rfl (by kernel_rfl) (fun _ _ _ h => h) (Or.inl ⟨by rfl, ?_⟩) (by assumption) ?_
        rotate_left
        · (intro w hSw; (try dsimp only at hSw); go_simp; try with_reducible rfl)
        try simp only [Act.put, List.getElem_toArray, List.getElem_cons_zero, List.getElem_cons_succ, List.setIfInBounds_toArray, List.set_cons_zero, List.set_cons_succ]
        refine wpAnyK_step (i := 2) rfl (by kernel_rfl) (fun K hK => ?_)
        go_simp
        with_reducible refine (rat_at af nf capf zf pf jf OF.out.good t t rfl (by omega) x1 HX1.out.1 _ O1.out.1.f.row).mono ?_
        rintro e y1 ⟨rfl, hb1⟩
        have O2 := Lib.hid (And.intro (O1.out.1.under hb1) (O1.out.2.trans (hb1.mono O1.out.2.size)))
        refine hK.out _ _ (KS.out _ O2.out) (fun hHeld1 => ?_)
        clear hK K hHeld0 hb1
        try simp only [Act.put, List.getElem_toArray, List.getElem_cons_zero, List.getElem_cons_succ, List.setIfInBounds_toArray, List.set_cons_zero, List.set_cons_succ]
        refine wpAnyK_step (i := 5) rfl (by kernel_rfl) (fun K hK => ?_)
        go_simp
        with_reducible refine (rat_at ag ng capg zg pg jg OG.out.good t t rfl (by omega) x2 HX1.out.2 _ O2.out.1.g.row).mono ?_
        rintro e y2 ⟨rfl, hb2⟩
        have O3 := Lib.hid (And.intro (O2.out.1.under hb2) (O2.out.2.trans (hb2.mono O2.out.2.size)))
        refine hK.out _ _ (KS.out _ O3.out) (fun hHeld2 => ?_)
        clear hK K hHeld1 hb2
        try simp only [Act.put, List.getElem_toArray, List.getElem_cons_zero, List.getElem_cons_succ, List.setIfInBounds_toArray, List.set_cons_zero, List.set_cons_succ]
        refine wpAnyK_done (by kernel_rfl) ?_
        simp only [List.drop_succ_cons, List.drop_zero]
        clear hHeld2
        obtain ⟨c0, c1, c2, c3, c4, c5⟩ := O3.out.1.p.box
        go_wp2_with fail
        clear c0 c1 c2 c3 c4 c5
        with_reducible refine (value_at a1 n1 cap1 z1 p1 i1 HFp.out.good t t rfl (by omega) (plI x1 x2) (val_of HFp.out.val HSM.out) _ O3.out.1.p.row).mono ?_
        rintro e y3 ⟨rfl, hb3⟩
        have O4 := Lib.hid (And.intro (O3.out.1.under hb3) (O3.out.2.trans (hb3.mono O3.out.2.size)))
        clear hb3
        go_wp2_with fail
        with_reducible refine (lplus_any x1 x2 HMI.out.1 HMI.out.2 _).mono ?_
        rintro e y4 ⟨rfl, rfl⟩
        obtain ⟨c0, c1, c2, c3, c4, c5⟩ := O4.out.1.q.box
        go_wp2_with fail
        clear c0 c1 c2 c3 c4 c5
        rcases (show x1 ≤ x2 ∨ ¬ x1 ≤ x2 by omega) with hle | hle
        · with_reducible refine (value_mx HM2.out t (by omega) x1 (by rw [if_pos rfl, HMN.out]; omega) 0 (by rw [if_pos rfl]) _ O4.out.1.q.row).mono ?_
          rintro e y5 ⟨rfl, hb5⟩
          have O5 := Lib.hid (And.intro (O4.out.1.under hb5) (O4.out.2.trans (hb5.mono O4.out.2.size)))
          obtain ⟨c0, c1, c2, c3, c4, c5⟩ := O5.out.1.r.box
          clear hb5
          go_wp2_with fail
          clear c0 c1 c2 c3 c4 c5
          with_reducible refine (value_mx HM3.out t (by omega) x2 (by rw [if_pos rfl, HMA.out]; omega) 0 (by rw [if_pos rfl]) _ O5.out.1.r.row).mono ?_
          rintro e y6 ⟨rfl, hb6⟩
          have O6 := Lib.hid (And.intro (O5.out.1.under hb6) (O5.out.2.trans (hb6.mono O5.out.2.size)))
          clear hb6
          go_wp2_with fail
          go_roundw
          case rel => exact ⟨k + 1, by go_num, by omega, O6.out⟩
          case measure => simp [intOf]; omega
        · with_reducible refine (value_mx HM2.out t (by omega) x2 (by rw [if_pos rfl, HMN.out]; omega) 0 (by rw [if_pos rfl]) _ O4.out.1.q.row).mono ?_
          rintro e y5 ⟨rfl, hb5⟩
          have O5 := Lib.hid (And.intro (O4.out.1.under hb5) (O4.out.2.trans (hb5.mono O4.out.2.size)))
          obtain ⟨c0, c1, c2, c3, c4, c5⟩ := O5.out.1.r.box
          clear hb5
          go_wp2_with fail
          clear c0 c1 c2 c3 c4 c5
          with_reducible refine (value_mx HM3.out t (by omega) x1 (by rw [if_pos rfl, HMA.out]; omega) 0 (by rw [if_pos rfl]) _ O5.out.1.r.row).mono ?_
          rintro e y6 ⟨rfl, hb6⟩
          have O6 := Lib.hid (And.intro (O5.out.1.under hb6) (O5.out.2.trans (hb6.mono O5.out.2.size)))
          clear hb6
          go_wp2_with fail
          go_roundw
          case rel => exact ⟨k + 1, by go_num, by omega, O6.out⟩
          case measure => simp [intOf]; omega
      · obtain rfl : k = 4 := by omega
        go_wp2_with fail
        refine (awake5 _).mono ?_
        rintro e y7 ⟨rfl, hb⟩
        have HB9 := Lib.hid (HK.out.2.trans (hb.mono HK.out.2.size))
        clear hb
        go_wp2_with fail
        go_ret
        exact ⟨rfl, HB9.out⟩
  · go_wp2_with fail
    try rw [hw3]
    clear hw3
    refine (mod_any at0 1048576 HAT.out (by omega) (by omega) _).mono ?_
    rintro e w4 ⟨rfl, rfl⟩
    obtain ⟨m0, hm0⟩ : ∃ m, at0 % 1048576 = m := ⟨_, rfl⟩
    have hm1 : 0 ≤ m0 ∧ m0 < 1048576 := by rw [← hm0]; exact ⟨Int.emod_nonneg _ (by omega), Int.emod_lt_of_pos _ (by omega)⟩
    rw [hm0]
    clear hm0
    go_wp2_with fail
    refine (n_any 30 (by omega) (by omega) _ ra rn rc _ SR3.out).mono ?_
    rintro e w5 ⟨r1, ⟨r10, r11⟩, rfl, hs5, he5⟩
    have SR5 := Lib.hid hs5
    have hne : u3.heap.size ≠ W.heap.size ∧ u3.heap.size + 1 ≠ W.heap.size ∧ v1.heap.size ≠ W.heap.size ∧ v2.heap.size ≠ W.heap.size ∧ v3.heap.size ≠ W.heap.size := by
      have h1 := SW.out; have h2 := SX1.out.2; have h3 := SX2.out.2; have h4 := SX3.out.2; have h5 := HB_1.out.size; have h6 := HB_2.out.size; have h7 := SZW1.out; have h8 := SZW2.out; omega
    have FX1 := Lib.hid (show ∀ x, a1 = some x → ¬ x.block = W.heap.size from fun x hx => by have := SX1.out.1 x hx; have := SW.out; omega)
    have FX2 := Lib.hid (show ∀ x, a2 = some x → ¬ x.block = W.heap.size from fun x hx => by have := SX2.out.1 x hx; have := SW.out; have := SX1.out.2; have := SZW1.out; omega)
    have FX3 := Lib.hid (show ∀ x, a3 = some x → ¬ x.block = W.heap.size from fun x hx => by have := SX3.out.1 x hx; have := SW.out; have := SX1.out.2; have := SZW1.out; have := SX2.out.2; have := SZW2.out; omega)
    have Y5 := Lib.hid (And.intro (Xf_3.out.apart he5.apart hne.1 X2.out) (And.intro (Xg_3.out.apart he5.apart hne.2.1 X3.out) (And.intro (Xp_3.out.apart he5.apart hne.2.2.1 FX1.out) (And.intro (Xq_3.out.apart he5.apart hne.2.2.2.1 FX2.out) (Xr_3.out.apart he5.apart hne.2.2.2.2 FX3.out)))))
    have HB5 := Lib.hid (HB_3.out.trans (he5.below (Nat.le_refl _)))
    clear hs5 he5
    go_wp2_with fail
    refine (n_any 900 (by omega) (by omega) _ ra rn rc _ SR5.out).mono ?_
    rintro e w6 ⟨r2, ⟨r20, r21⟩, rfl, hs6, he6⟩
    have hl6 := rowZ_lit w6 [m0, r1, r2, 0] 3 (by intro z hz; simp at hz; rcases hz with rfl | rfl | rfl | rfl <;> exact ⟨by omega, by omega⟩) (by show 4 ≤ 1000; decide)
    obtain ⟨w7, hw⟩ : ∃ W, w6.alloc (.cells #[.int .i64 m0, .int .i64 r1, .int .i64 r2, .int .i64 0] 3) = W := ⟨_, rfl⟩
    have hz : Below w6.heap.size w6 w7 := by rw [← hw]; exact below_box _
    have HF7 := Lib.hid (show (Five w7 u3.heap.size (u3.heap.size + 1) v1.heap.size v2.heap.size v3.heap.size w6.heap.size af nf capf pf jf zf ag ng capg pg jg zg a1 n1 cap1 p1 i1 z1 a2 n2 cap2 p2 i2 z2 a3 n3 cap3 p3 i3 z3 [m0, r1, r2, 0]) from ⟨(Y5.out.1.apart he6.apart hne.1 X2.out).under hz, (Y5.out.2.1.apart he6.apart hne.2.1 X3.out).under hz, (Y5.out.2.2.1.apart he6.apart hne.2.2.1 FX1.out).under hz, (Y5.out.2.2.2.1.apart he6.apart hne.2.2.2.1 FX2.out).under hz, (Y5.out.2.2.2.2.apart he6.apart hne.2.2.2.2 FX3.out).under hz, by rw [← hw]; exact hl6⟩)
    have hb6 := HB5.out.trans (he6.below (Nat.le_refl _))
    have HB7 := Lib.hid (hb6.trans (hz.mono hb6.size))
    have HTS := Lib.hid (show ∀ i, i < 4 → ∃ t : Nat, ([m0, r1, r2, 0] : List Int).getD i 0 = t ∧ t < 1048576 from fun i hi => by
      have : i = 0 ∨ i = 1 ∨ i = 2 ∨ i = 3 := by omega
      rcases this with rfl | rfl | rfl | rfl
      · exact ⟨m0.toNat, by show m0 = _; omega, by omega⟩
      · exact ⟨r1.toNat, by show r1 = _; omega, by omega⟩
      · exact ⟨r2.toNat, by show r2 = _; omega, by omega⟩
      · exact ⟨0, rfl, by omega⟩)
    have hw7 := hw
    clear hs6 he6 hl6 hw hz hb6 hne r10 r11 r20 r21 hm1
    go_wp2_with fail
    try rw [hw7]
    clear hw7
    go_loopw [72] (fun s72 wx => ∃ k : Nat, s72 = .int .i64 k ∧ k ≤ 4 ∧ Hid ((Five wx u3.heap.size (u3.heap.size + 1) v1.heap.size v2.heap.size v3.heap.size w6.heap.size af nf capf pf jf zf ag ng capg pg jg zg a1 n1 cap1 p1 i1 z1 a2 n2 cap2 p2 i2 z2 a3 n3 cap3 p3 i3 z3 [m0, r1, r2, 0]) ∧ Below W.heap.size W wx)) (fun s72 _ => 4 - (intOf s72).toNat)
    case atStart => exact ⟨0, by go_num, by omega, HF7.out, HB7.out⟩
    case round =>
      obtain ⟨k, rfl, hk, HK⟩ := hrel
      obtain ⟨wk, rfl⟩ : ∃ u : World, u = wr := ⟨_, rfl⟩
      by_cases hlt : k < 4
      · obtain ⟨t, ht0, ht1⟩ := HTS.out k hlt
        obtain ⟨x, hx, hcl⟩ := HK.out.1.t.cell k hlt
        obtain rfl : x = ⟨w6.heap.size, 0, none⟩ := (Option.some.inj hx).symm
        have ea : ((⟨w6.heap.size, 0, none⟩ : Addr).add k) = ⟨w6.heap.size, k, none⟩ := by unfold Addr.add; split <;> simp_all
        rw [ea, ht0] at hcl
        clear ea
        have hl4 : (k : Int) < 4 := by omega
        have T9 := Lib.hid (And.intro ht0 ht1)
        clear ht0 hx
        go_wp2_with fail
        clear hcl
        obtain ⟨x1, hx1⟩ : ∃ v, atC zf pf jf t = v := ⟨_, rfl⟩
        obtain ⟨x2, hx2⟩ : ∃ v, atC zg pg jg t = v := ⟨_, rfl⟩
        have HX1 := Lib.hid (And.intro hx1 hx2)
        have HMI := Lib.hid (show Mid x1 ∧ Mid x2 by rw [← hx1, ← hx2]; exact ⟨mid_far OF.out.good ht1, mid_far OG.out.good ht1⟩)
        have HSM := Lib.hid (show enc (eSum zf pf jf zg pg jg t) = plI x1 x2 by rw [← hx1, ← hx2]; exact sum_val OF.out.good OG.out.good (by omega))
        have HMN := Lib.hid (show enc (eMin zf pf jf zg pg jg t) = min x1 x2 by rw [← hx1, ← hx2]; exact min_val OF.out.good OG.out.good (by omega))
        have HMA := Lib.hid (show enc (eMax zf pf jf zg pg jg t) = max x1 x2 by rw [← hx1, ← hx2]; exact max_val OF.out.good OG.out.good (by omega))
        clear hx1 hx2
        have KS := Lib.hid (show ∀ u, (Five u u3.heap.size (u3.heap.size + 1) v1.heap.size v2.heap.size v3.heap.size w6.heap.size af nf capf pf jf zf ag ng capg pg jg zg a1 n1 cap1 p1 i1 z1 a2 n2 cap2 p2 i2 z2 a3 n3 cap3 p3 i3 z3 [m0, r1, r2, 0]) ∧ Below W.heap.size W u → (fun u => (u.cell? ⟨u3.heap.size, 0, none⟩ = some (.slice af nf capf) ∧ u.cell? ⟨u3.heap.size, 1, none⟩ = some (.int .i64 pf) ∧ u.cell? ⟨u3.heap.size, 2, none⟩ = some (.int .i64 jf)) ∧ (u.cell? ⟨u3.heap.size + 1, 0, none⟩ = some (.slice ag ng capg) ∧ u.cell? ⟨u3.heap.size + 1, 1, none⟩ = some (.int .i64 pg) ∧ u.cell? ⟨u3.heap.size + 1, 2, none⟩ = some (.int .i64 jg)) ∧ Hid ((Five u u3.heap.size (u3.heap.size + 1) v1.heap.size v2.heap.size v3.heap.size w6.heap.size af nf capf pf jf zf ag ng capg pg jg zg a1 n1 cap1 p1 i1 z1 a2 n2 cap2 p2 i2 z2 a3 n3 cap3 p3 i3 z3 [m0, r1, r2, 0]) ∧ Below W.heap.size W u)) u from fun u hu => ⟨⟨hu.1.f.box.c0, hu.1.f.box.c1, hu.1.f.box.c2⟩, ⟨hu.1.g.box.c0, hu.1.g.box.c1, hu.1.g.box.c2⟩, hu⟩)
        have O1 := Lib.hid (And.intro (HK.out.1.under (Below.drew (Below.refl _ _))) (Below.drew HK.out.2))
        refine wp_region_keeps (fun u => (u.cell? ⟨u3.heap.size, 0, none⟩ = some (.slice af nf capf) ∧ u.cell? ⟨u3.heap.size, 1, none⟩ = some (.int .i64 pf) ∧ u.cell? ⟨u3.heap.size, 2, none⟩ = some (.int .i64 jf)) ∧ (u.cell? ⟨u3.heap.size + 1, 0, none⟩ = some (.slice ag ng capg) ∧ u.cell? ⟨u3.heap.size + 1, 1, none⟩ = some (.int .i64 pg) ∧ u.cell? ⟨u3.heap.size + 1, 2, none⟩ = some (.int .i64 jg)) ∧ Hid ((Five u u3.heap.size (u3.heap.size + 1) v1.heap.size v2.heap.size v3.heap.size w6.heap.size af nf capf pf jf zf ag ng capg pg jg zg a1 n1 cap1 p1 i1 z1 a2 n2 cap2 p2 i2 z2 a3 n3 cap3 p3 i3 z3 [m0, r1, r2, 0]) ∧ Below W.heap.size W u)) 6 2 (by kernel_rfl) (by kernel_rfl) (KS.out _ O1.out) (fun hHeld0 => ?_)
        refine wpAnyK_take (i := 0) (v := ?_) rfl (by kernel_rfl) (fun _ _ _ h => h) (Or.inl ⟨by rfl, ?_⟩) (by assumption) ?_
        rotate_left
        · (intro w hSw; (try dsimp only at hSw); go_simp; try with_reducible rfl)
        try simp only [Act.put, List.getElem_toArray, List.getElem_cons_zero, List.getElem_cons_succ, List.setIfInBounds_toArray, List.set_cons_zero, List.set_cons_succ]
        refine wpAnyK_take (i := 1) (v := ?_) rfl (by kernel_rfl) (fun _ _ _ h => h) (Or.inl ⟨by rfl, ?_⟩) (by assumption) ?_
        rotate_left
        · (intro w hSw; (try dsimp only at hSw); go_simp; try with_reducible rfl)
        try simp only [Act.put, List.getElem_toArray, List.getElem_cons_zero, List.getElem_cons_succ, List.setIfInBounds_toArray, List.set_cons_zero, List.set_cons_succ]
        refine wpAnyK_take (i := 3) (v := ?_) rfl (by kernel_rfl) (fun _ _ _ h => h) (Or.inl ⟨by rfl, ?_⟩) (by assumption) ?_
        rotate_left
        · (intro w hSw; (try dsimp only at hSw); go_simp; try with_reducible rfl)
        try simp only [Act.put, List.getElem_toArray, List.getElem_cons_zero, List.getElem_cons_succ, List.setIfInBounds_toArray, List.set_cons_zero, List.set_cons_succ]
        refine wpAnyK_take (i := 4) (v := ?_) rfl (by kernel_rfl) (fun _ _ _ h => h) (Or.inl ⟨by rfl, ?_⟩) (by assumption) ?_
        rotate_left
        · (intro w hSw; (try dsimp only at hSw); go_simp; try with_reducible rfl)
        try simp only [Act.put, List.getElem_toArray, List.getElem_cons_zero, List.getElem_cons_succ, List.setIfInBounds_toArray, List.set_cons_zero, List.set_cons_succ]
        refine wpAnyK_step (i := 2) rfl (by kernel_rfl) (fun K hK => ?_)
        go_simp
        with_reducible refine (rat_at af nf capf zf pf jf OF.out.good t t rfl (by omega) x1 HX1.out.1 _ O1.out.1.f.row).mono ?_
        rintro e y1 ⟨rfl, hb1⟩
        have O2 := Lib.hid (And.intro (O1.out.1.under hb1) (O1.out.2.trans (hb1.mono O1.out.2.size)))
        refine hK.out _ _ (KS.out _ O2.out) (fun hHeld1 => ?_)
        clear hK K hHeld0 hb1
        try simp only [Act.put, List.getElem_toArray, List.getElem_cons_zero, List.getElem_cons_succ, List.setIfInBounds_toArray, List.set_cons_zero, List.set_cons_succ]
        refine wpAnyK_step (i := 5) rfl (by kernel_rfl) (fun K hK => ?_)
        go_simp
        with_reducible refine (rat_at ag ng capg zg pg jg OG.out.good t t rfl (by omega) x2 HX1.out.2 _ O2.out.1.g.row).mono ?_
        rintro e y2 ⟨rfl, hb2⟩
        have O3 := Lib.hid (And.intro (O2.out.1.under hb2) (O2.out.2.trans (hb2.mono O2.out.2.size)))
        refine hK.out _ _ (KS.out _ O3.out) (fun hHeld2 => ?_)
        clear hK K hHeld1 hb2
        try simp only [Act.put, List.getElem_toArray, List.getElem_cons_zero, List.getElem_cons_succ, List.setIfInBounds_toArray, List.set_cons_zero, List.set_cons_succ]
        refine wpAnyK_done (by kernel_rfl) ?_
        simp only [List.drop_succ_cons, List.drop_zero]
        clear hHeld2
        obtain ⟨c0, c1, c2, c3, c4, c5⟩ := O3.out.1.p.box
        go_wp2_with fail
        clear c0 c1 c2 c3 c4 c5
        with_reducible refine (value_at a1 n1 cap1 z1 p1 i1 HFp.out.good t t rfl (by omega) (plI x1 x2) (val_of HFp.out.val HSM.out) _ O3.out.1.p.row).mono ?_
        rintro e y3 ⟨rfl, hb3⟩
        have O4 := Lib.hid (And.intro (O3.out.1.under hb3) (O3.out.2.trans (hb3.mono O3.out.2.size)))
        clear hb3
        go_wp2_with fail
        with_reducible refine (lplus_any x1 x2 HMI.out.1 HMI.out.2 _).mono ?_
        rintro e y4 ⟨rfl, rfl⟩
        obtain ⟨c0, c1, c2, c3, c4, c5⟩ := O4.out.1.q.box
        go_wp2_with fail
        clear c0 c1 c2 c3 c4 c5
        rcases (show x1 ≤ x2 ∨ ¬ x1 ≤ x2 by omega) with hle | hle
        · with_reducible refine (value_mx HM2.out t (by omega) x1 (by rw [if_pos rfl, HMN.out]; omega) 0 (by rw [if_pos rfl]) _ O4.out.1.q.row).mono ?_
          rintro e y5 ⟨rfl, hb5⟩
          have O5 := Lib.hid (And.intro (O4.out.1.under hb5) (O4.out.2.trans (hb5.mono O4.out.2.size)))
          obtain ⟨c0, c1, c2, c3, c4, c5⟩ := O5.out.1.r.box
          clear hb5
          go_wp2_with fail
          clear c0 c1 c2 c3 c4 c5
          with_reducible refine (value_mx HM3.out t (by omega) 0 (by rw [if_neg (by decide)]) 1 (by rw [if_neg (by decide)]) _ O5.out.1.r.row).mono ?_
          rintro e y6 ⟨rfl, hb6⟩
          have O6 := Lib.hid (And.intro (O5.out.1.under hb6) (O5.out.2.trans (hb6.mono O5.out.2.size)))
          clear hb6
          go_wp2_with fail
          go_roundw
          case rel => exact ⟨k + 1, by go_num, by omega, O6.out⟩
          case measure => simp [intOf]; omega
        · with_reducible refine (value_mx HM2.out t (by omega) x2 (by rw [if_pos rfl, HMN.out]; omega) 0 (by rw [if_pos rfl]) _ O4.out.1.q.row).mono ?_
          rintro e y5 ⟨rfl, hb5⟩
          have O5 := Lib.hid (And.intro (O4.out.1.under hb5) (O4.out.2.trans (hb5.mono O4.out.2.size)))
          obtain ⟨c0, c1, c2, c3, c4, c5⟩ := O5.out.1.r.box
          clear hb5
          go_wp2_with fail
          clear c0 c1 c2 c3 c4 c5
          with_reducible refine (value_mx HM3.out t (by omega) 0 (by rw [if_neg (by decide)]) 1 (by rw [if_neg (by decide)]) _ O5.out.1.r.row).mono ?_
          rintro e y6 ⟨rfl, hb6⟩
          have O6 := Lib.hid (And.intro (O5.out.1.under hb6) (O5.out.2.trans (hb6.mono O5.out.2.size)))
          clear hb6
          go_wp2_with fail
          go_roundw
          case rel => exact ⟨k + 1, by go_num, by omega, O6.out⟩
          case measure => simp [intOf]; omega
      · obtain rfl : k = 4 := by omega
        go_wp2_with fail
        refine (awake5 _).mono ?_
        rintro e y7 ⟨rfl, hb⟩
        have HB9 := Lib.hid (HK.out.2.trans (hb.mono HK.out.2.size))
        clear hb
        go_wp2_with fail
        go_ret
        exact ⟨rfl, HB9.out⟩
  · go_wp2_with fail
    try rw [hw3]
    clear hw3
    refine (mod_any at0 1048576 HAT.out (by omega) (by omega) _).mono ?_
    rintro e w4 ⟨rfl, rfl⟩
    obtain ⟨m0, hm0⟩ : ∃ m, at0 % 1048576 = m := ⟨_, rfl⟩
    have hm1 : 0 ≤ m0 ∧ m0 < 1048576 := by rw [← hm0]; exact ⟨Int.emod_nonneg _ (by omega), Int.emod_lt_of_pos _ (by omega)⟩
    rw [hm0]
    clear hm0
    go_wp2_with fail
    refine (n_any 30 (by omega) (by omega) _ ra rn rc _ SR3.out).mono ?_
    rintro e w5 ⟨r1, ⟨r10, r11⟩, rfl, hs5, he5⟩
    have SR5 := Lib.hid hs5
    have hne : u3.heap.size ≠ W.heap.size ∧ u3.heap.size + 1 ≠ W.heap.size ∧ v1.heap.size ≠ W.heap.size ∧ v2.heap.size ≠ W.heap.size ∧ v3.heap.size ≠ W.heap.size := by
      have h1 := SW.out; have h2 := SX1.out.2; have h3 := SX2.out.2; have h4 := SX3.out.2; have h5 := HB_1.out.size; have h6 := HB_2.out.size; have h7 := SZW1.out; have h8 := SZW2.out; omega
    have FX1 := Lib.hid (show ∀ x, a1 = some x → ¬ x.block = W.heap.size from fun x hx => by have := SX1.out.1 x hx; have := SW.out; omega)
    have FX2 := Lib.hid (show ∀ x, a2 = some x → ¬ x.block = W.heap.size from fun x hx => by have := SX2.out.1 x hx; have := SW.out; have := SX1.out.2; have := SZW1.out; omega)
    have FX3 := Lib.hid (show ∀ x, a3 = some x → ¬ x.block = W.heap.size from fun x hx => by have := SX3.out.1 x hx; have := SW.out; have := SX1.out.2; have := SZW1.out; have := SX2.out.2; have := SZW2.out; omega)
    have Y5 := Lib.hid (And.intro (Xf_3.out.apart he5.apart hne.1 X2.out) (And.intro (Xg_3.out.apart he5.apart hne.2.1 X3.out) (And.intro (Xp_3.out.apart he5.apart hne.2.2.1 FX1.out) (And.intro (Xq_3.out.apart he5.apart hne.2.2.2.1 FX2.out) (Xr_3.out.apart he5.apart hne.2.2.2.2 FX3.out)))))
    have HB5 := Lib.hid (HB_3.out.trans (he5.below (Nat.le_refl _)))
    clear hs5 he5
    go_wp2_with fail
    refine (n_any 900 (by omega) (by omega) _ ra rn rc _ SR5.out).mono ?_
    rintro e w6 ⟨r2, ⟨r20, r21⟩, rfl, hs6, he6⟩
    have hl6 := rowZ_lit w6 [m0, r1, r2, 0] 3 (by intro z hz; simp at hz; rcases hz with rfl | rfl | rfl | rfl <;> exact ⟨by omega, by omega⟩) (by show 4 ≤ 1000; decide)
    obtain ⟨w7, hw⟩ : ∃ W, w6.alloc (.cells #[.int .i64 m0, .int .i64 r1, .int .i64 r2, .int .i64 0] 3) = W := ⟨_, rfl⟩
    have hz : Below w6.heap.size w6 w7 := by rw [← hw]; exact below_box _
    have HF7 := Lib.hid (show (Five w7 u3.heap.size (u3.heap.size + 1) v1.heap.size v2.heap.size v3.heap.size w6.heap.size af nf capf pf jf zf ag ng capg pg jg zg a1 n1 cap1 p1 i1 z1 a2 n2 cap2 p2 i2 z2 a3 n3 cap3 p3 i3 z3 [m0, r1, r2, 0]) from ⟨(Y5.out.1.apart he6.apart hne.1 X2.out).under hz, (Y5.out.2.1.apart he6.apart hne.2.1 X3.out).under hz, (Y5.out.2.2.1.apart he6.apart hne.2.2.1 FX1.out).under hz, (Y5.out.2.2.2.1.apart he6.apart hne.2.2.2.1 FX2.out).under hz, (Y5.out.2.2.2.2.apart he6.apart hne.2.2.2.2 FX3.out).under hz, by rw [← hw]; exact hl6⟩)
    have hb6 := HB5.out.trans (he6.below (Nat.le_refl _))
    have HB7 := Lib.hid (hb6.trans (hz.mono hb6.size))
    have HTS := Lib.hid (show ∀ i, i < 4 → ∃ t : Nat, ([m0, r1, r2, 0] : List Int).getD i 0 = t ∧ t < 1048576 from fun i hi => by
      have : i = 0 ∨ i = 1 ∨ i = 2 ∨ i = 3 := by omega
      rcases this with rfl | rfl | rfl | rfl
      · exact ⟨m0.toNat, by show m0 = _; omega, by omega⟩
      · exact ⟨r1.toNat, by show r1 = _; omega, by omega⟩
      · exact ⟨r2.toNat, by show r2 = _; omega, by omega⟩
      · exact ⟨0, rfl, by omega⟩)
    have hw7 := hw
    clear hs6 he6 hl6 hw hz hb6 hne r10 r11 r20 r21 hm1
    go_wp2_with fail
    try rw [hw7]
    clear hw7
    go_loopw [72] (fun s72 wx => ∃ k : Nat, s72 = .int .i64 k ∧ k ≤ 4 ∧ Hid ((Five wx u3.heap.size (u3.heap.size + 1) v1.heap.size v2.heap.size v3.heap.size w6.heap.size af nf capf pf jf zf ag ng capg pg jg zg a1 n1 cap1 p1 i1 z1 a2 n2 cap2 p2 i2 z2 a3 n3 cap3 p3 i3 z3 [m0, r1, r2, 0]) ∧ Below W.heap.size W wx)) (fun s72 _ => 4 - (intOf s72).toNat)
    case atStart => exact ⟨0, by go_num, by omega, HF7.out, HB7.out⟩
    case round =>
      obtain ⟨k, rfl, hk, HK⟩ := hrel
      obtain ⟨wk, rfl⟩ : ∃ u : World, u = wr := ⟨_, rfl⟩
      by_cases hlt : k < 4
      · obtain ⟨t, ht0, ht1⟩ := HTS.out k hlt
        obtain ⟨x, hx, hcl⟩ := HK.out.1.t.cell k hlt
        obtain rfl : x = ⟨w6.heap.size, 0, none⟩ := (Option.some.inj hx).symm
        have ea : ((⟨w6.heap.size, 0, none⟩ : Addr).add k) = ⟨w6.heap.size, k, none⟩ := by unfold Addr.add; split <;> simp_all
        rw [ea, ht0] at hcl
        clear ea
        have hl4 : (k : Int) < 4 := by omega
        have T9 := Lib.hid (And.intro ht0 ht1)
        clear ht0 hx
        go_wp2_with fail
        clear hcl
        obtain ⟨x1, hx1⟩ : ∃ v, atC zf pf jf t = v := ⟨_, rfl⟩
        obtain ⟨x2, hx2⟩ : ∃ v, atC zg pg jg t = v := ⟨_, rfl⟩
        have HX1 := Lib.hid (And.intro hx1 hx2)
        have HMI := Lib.hid (show Mid x1 ∧ Mid x2 by rw [← hx1, ← hx2]; exact ⟨mid_far OF.out.good ht1, mid_far OG.out.good ht1⟩)
        have HSM := Lib.hid (show enc (eSum zf pf jf zg pg jg t) = plI x1 x2 by rw [← hx1, ← hx2]; exact sum_val OF.out.good OG.out.good (by omega))
        have HMN := Lib.hid (show enc (eMin zf pf jf zg pg jg t) = min x1 x2 by rw [← hx1, ← hx2]; exact min_val OF.out.good OG.out.good (by omega))
        have HMA := Lib.hid (show enc (eMax zf pf jf zg pg jg t) = max x1 x2 by rw [← hx1, ← hx2]; exact max_val OF.out.good OG.out.good (by omega))
        clear hx1 hx2
        have KS := Lib.hid (show ∀ u, (Five u u3.heap.size (u3.heap.size + 1) v1.heap.size v2.heap.size v3.heap.size w6.heap.size af nf capf pf jf zf ag ng capg pg jg zg a1 n1 cap1 p1 i1 z1 a2 n2 cap2 p2 i2 z2 a3 n3 cap3 p3 i3 z3 [m0, r1, r2, 0]) ∧ Below W.heap.size W u → (fun u => (u.cell? ⟨u3.heap.size, 0, none⟩ = some (.slice af nf capf) ∧ u.cell? ⟨u3.heap.size, 1, none⟩ = some (.int .i64 pf) ∧ u.cell? ⟨u3.heap.size, 2, none⟩ = some (.int .i64 jf)) ∧ (u.cell? ⟨u3.heap.size + 1, 0, none⟩ = some (.slice ag ng capg) ∧ u.cell? ⟨u3.heap.size + 1, 1, none⟩ = some (.int .i64 pg) ∧ u.cell? ⟨u3.heap.size + 1, 2, none⟩ = some (.int .i64 jg)) ∧ Hid ((Five u u3.heap.size (u3.heap.size + 1) v1.heap.size v2.heap.size v3.heap.size w6.heap.size af nf capf pf jf zf ag ng capg pg jg zg a1 n1 cap1 p1 i1 z1 a2 n2 cap2 p2 i2 z2 a3 n3 cap3 p3 i3 z3 [m0, r1, r2, 0]) ∧ Below W.heap.size W u)) u from fun u hu => ⟨⟨hu.1.f.box.c0, hu.1.f.box.c1, hu.1.f.box.c2⟩, ⟨hu.1.g.box.c0, hu.1.g.box.c1, hu.1.g.box.c2⟩, hu⟩)
        have O1 := Lib.hid (And.intro (HK.out.1.under (Below.drew (Below.refl _ _))) (Below.drew HK.out.2))
        refine wp_region_keeps (fun u => (u.cell? ⟨u3.heap.size, 0, none⟩ = some (.slice af nf capf) ∧ u.cell? ⟨u3.heap.size, 1, none⟩ = some (.int .i64 pf) ∧ u.cell? ⟨u3.heap.size, 2, none⟩ = some (.int .i64 jf)) ∧ (u.cell? ⟨u3.heap.size + 1, 0, none⟩ = some (.slice ag ng capg) ∧ u.cell? ⟨u3.heap.size + 1, 1, none⟩ = some (.int .i64 pg) ∧ u.cell? ⟨u3.heap.size + 1, 2, none⟩ = some (.int .i64 jg)) ∧ Hid ((Five u u3.heap.size (u3.heap.size + 1) v1.heap.size v2.heap.size v3.heap.size w6.heap.size af nf capf pf jf zf ag ng capg pg jg zg a1 n1 cap1 p1 i1 z1 a2 n2 cap2 p2 i2 z2 a3 n3 cap3 p3 i3 z3 [m0, r1, r2, 0]) ∧ Below W.heap.size W u)) 6 2 (by kernel_rfl) (by kernel_rfl) (KS.out _ O1.out) (fun hHeld0 => ?_)
        refine wpAnyK_take (i := 0) (v := ?_) rfl (by kernel_rfl) (fun _ _ _ h => h) (Or.inl ⟨by rfl, ?_⟩) (by assumption) ?_
        rotate_left
        · (intro w hSw; (try dsimp only at hSw); go_simp; try with_reducible rfl)
        try simp only [Act.put, List.getElem_toArray, List.getElem_cons_zero, List.getElem_cons_succ, List.setIfInBounds_toArray, List.set_cons_zero, List.set_cons_succ]
        refine wpAnyK_take (i := 1) (v := ?_) rfl (by kernel_rfl) (fun _ _ _ h => h) (Or.inl ⟨by rfl, ?_⟩) (by assumption) ?_
        rotate_left
        · (intro w hSw; (try dsimp only at hSw); go_simp; try with_reducible rfl)
        try simp only [Act.put, List.getElem_toArray, List.getElem_cons_zero, List.getElem_cons_succ, List.setIfInBounds_toArray, List.set_cons_zero, List.set_cons_succ]
        refine wpAnyK_take (i := 3) (v := ?_) rfl (by kernel_rfl) (fun _ _ _ h => h) (Or.inl ⟨by rfl, ?_⟩) (by assumption) ?_
        rotate_left
        · (intro w hSw; (try dsimp only at hSw); go_simp; try with_reducible rfl)
        try simp only [Act.put, List.getElem_toArray, List.getElem_cons_zero, List.getElem_cons_succ, List.setIfInBounds_toArray, List.set_cons_zero, List.set_cons_succ]
        refine wpAnyK_take (i := 4) (v := ?_) rfl (by kernel_rfl) (fun _ _ _ h => h) (Or.inl ⟨by rfl, ?_⟩) (by assumption) ?_
        rotate_left
        · (intro w hSw; (try dsimp only at hSw); go_simp; try with_reducible rfl)
        try simp only [Act.put, List.getElem_toArray, List.getElem_cons_zero, List.getElem_cons_succ, List.setIfInBounds_toArray, List.set_cons_zero, List.set_cons_succ]
        refine wpAnyK_step (i := 2) rfl (by kernel_rfl) (fun K hK => ?_)
        go_simp
        with_reducible refine (rat_at af nf capf zf pf jf OF.out.good t t rfl (by omega) x1 HX1.out.1 _ O1.out.1.f.row).mono ?_
        rintro e y1 ⟨rfl, hb1⟩
        have O2 := Lib.hid (And.intro (O1.out.1.under hb1) (O1.out.2.trans (hb1.mono O1.out.2.size)))
        refine hK.out _ _ (KS.out _ O2.out) (fun hHeld1 => ?_)
        clear hK K hHeld0 hb1
        try simp only [Act.put, List.getElem_toArray, List.getElem_cons_zero, List.getElem_cons_succ, List.setIfInBounds_toArray, List.set_cons_zero, List.set_cons_succ]
        refine wpAnyK_step (i := 5) rfl (by kernel_rfl) (fun K hK => ?_)
        go_simp
        with_reducible refine (rat_at ag ng capg zg pg jg OG.out.good t t rfl (by omega) x2 HX1.out.2 _ O2.out.1.g.row).mono ?_
        rintro e y2 ⟨rfl, hb2⟩
        have O3 := Lib.hid (And.intro (O2.out.1.under hb2) (O2.out.2.trans (hb2.mono O2.out.2.size)))
        refine hK.out _ _ (KS.out _ O3.out) (fun hHeld2 => ?_)
        clear hK K hHeld1 hb2
        try simp only [Act.put, List.getElem_toArray, List.getElem_cons_zero, List.getElem_cons_succ, List.setIfInBounds_toArray, List.set_cons_zero, List.set_cons_succ]
        refine wpAnyK_done (by kernel_rfl) ?_
        simp only [List.drop_succ_cons, List.drop_zero]
        clear hHeld2
        obtain ⟨c0, c1, c2, c3, c4, c5⟩ := O3.out.1.p.box
        go_wp2_with fail
        clear c0 c1 c2 c3 c4 c5
        with_reducible refine (value_at a1 n1 cap1 z1 p1 i1 HFp.out.good t t rfl (by omega) (plI x1 x2) (val_of HFp.out.val HSM.out) _ O3.out.1.p.row).mono ?_
        rintro e y3 ⟨rfl, hb3⟩
        have O4 := Lib.hid (And.intro (O3.out.1.under hb3) (O3.out.2.trans (hb3.mono O3.out.2.size)))
        clear hb3
        go_wp2_with fail
        with_reducible refine (lplus_any x1 x2 HMI.out.1 HMI.out.2 _).mono ?_
        rintro e y4 ⟨rfl, rfl⟩
        obtain ⟨c0, c1, c2, c3, c4, c5⟩ := O4.out.1.q.box
        go_wp2_with fail
        clear c0 c1 c2 c3 c4 c5
        rcases (show x1 ≤ x2 ∨ ¬ x1 ≤ x2 by omega) with hle | hle
        · with_reducible refine (value_mx HM2.out t (by omega) 0 (by rw [if_neg (by decide)]) 1 (by rw [if_neg (by decide)]) _ O4.out.1.q.row).mono ?_
          rintro e y5 ⟨rfl, hb5⟩
          have O5 := Lib.hid (And.intro (O4.out.1.under hb5) (O4.out.2.trans (hb5.mono O4.out.2.size)))
          obtain ⟨c0, c1, c2, c3, c4, c5⟩ := O5.out.1.r.box
          clear hb5
          go_wp2_with fail
          clear c0 c1 c2 c3 c4 c5
          with_reducible refine (value_mx HM3.out t (by omega) x2 (by rw [if_pos rfl, HMA.out]; omega) 0 (by rw [if_pos rfl]) _ O5.out.1.r.row).mono ?_
          rintro e y6 ⟨rfl, hb6⟩
          have O6 := Lib.hid (And.intro (O5.out.1.under hb6) (O5.out.2.trans (hb6.mono O5.out.2.size)))
          clear hb6
          go_wp2_with fail
          go_roundw
          case rel => exact ⟨k + 1, by go_num, by omega, O6.out⟩
          case measure => simp [intOf]; omega
        · with_reducible refine (value_mx HM2.out t (by omega) 0 (by rw [if_neg (by decide)]) 1 (by rw [if_neg (by decide)]) _ O4.out.1.q.row).mono ?_
          rintro e y5 ⟨rfl, hb5⟩
          have O5 := Lib.hid (And.intro (O4.out.1.under hb5) (O4.out.2.trans (hb5.mono O4.out.2.size)))
          obtain ⟨c0, c1, c2, c3, c4, c5⟩ := O5.out.1.r.box
          clear hb5
          go_wp2_with fail
          clear c0 c1 c2 c3 c4 c5
          with_reducible refine (value_mx HM3.out t (by omega) x1 (by rw [if_pos rfl, HMA.out]; omega) 0 (by rw [if_pos rfl]) _ O5.out.1.r.row).mono ?_
          rintro e y6 ⟨rfl, hb6⟩
          have O6 := Lib.hid (And.intro (O5.out.1.under hb6) (O5.out.2.trans (hb6.mono O5.out.2.size)))
          clear hb6
          go_wp2_with fail
          go_roundw
          case rel => exact ⟨k + 1, by go_num, by omega, O6.out⟩
          case measure => simp [intOf]; omega
      · obtain rfl : k = 4 := by omega
        go_wp2_with fail
        refine (awake5 _).mono ?_
        rintro e y7 ⟨rfl, hb⟩
        have HB9 := Lib.hid (HK.out.2.trans (hb.mono HK.out.2.size))
        clear hb
        go_wp2_with fail
        go_ret
        exact ⟨rfl, HB9.out⟩
  · go_wp2_with fail
    try rw [hw3]
    clear hw3
    refine (mod_any at0 1048576 HAT.out (by omega) (by omega) _).mono ?_
    rintro e w4 ⟨rfl, rfl⟩
    obtain ⟨m0, hm0⟩ : ∃ m, at0 % 1048576 = m := ⟨_, rfl⟩
    have hm1 : 0 ≤ m0 ∧ m0 < 1048576 := by rw [← hm0]; exact ⟨Int.emod_nonneg _ (by omega), Int.emod_lt_of_pos _ (by omega)⟩
    rw [hm0]
    clear hm0
    go_wp2_with fail
    refine (n_any 30 (by omega) (by omega) _ ra rn rc _ SR3.out).mono ?_
    rintro e w5 ⟨r1, ⟨r10, r11⟩, rfl, hs5, he5⟩
    have SR5 := Lib.hid hs5
    have hne : u3.heap.size ≠ W.heap.size ∧ u3.heap.size + 1 ≠ W.heap.size ∧ v1.heap.size ≠ W.heap.size ∧ v2.heap.size ≠ W.heap.size ∧ v3.heap.size ≠ W.heap.size := by
      have h1 := SW.out; have h2 := SX1.out.2; have h3 := SX2.out.2; have h4 := SX3.out.2; have h5 := HB_1.out.size; have h6 := HB_2.out.size; have h7 := SZW1.out; have h8 := SZW2.out; omega
    have FX1 := Lib.hid (show ∀ x, a1 = some x → ¬ x.block = W.heap.size from fun x hx => by have := SX1.out.1 x hx; have := SW.out; omega)
    have FX2 := Lib.hid (show ∀ x, a2 = some x → ¬ x.block = W.heap.size from fun x hx => by have := SX2.out.1 x hx; have := SW.out; have := SX1.out.2; have := SZW1.out; omega)
    have FX3 := Lib.hid (show ∀ x, a3 = some x → ¬ x.block = W.heap.size from fun x hx => by have := SX3.out.1 x hx; have := SW.out; have := SX1.out.2; have := SZW1.out; have := SX2.out.2; have := SZW2.out; omega)
    have Y5 := Lib.hid (And.intro (Xf_3.out.apart he5.apart hne.1 X2.out) (And.intro (Xg_3.out.apart he5.apart hne.2.1 X3.out) (And.intro (Xp_3.out.apart he5.apart hne.2.2.1 FX1.out) (And.intro (Xq_3.out.apart he5.apart hne.2.2.2.1 FX2.out) (Xr_3.out.apart he5.apart hne.2.2.2.2 FX3.out)))))
    have HB5 := Lib.hid (HB_3.out.trans (he5.below (Nat.le_refl _)))
    clear hs5 he5
    go_wp2_with fail
    refine (n_any 900 (by omega) (by omega) _ ra rn rc _ SR5.out).mono ?_
    rintro e w6 ⟨r2, ⟨r20, r21⟩, rfl, hs6, he6⟩
    have hl6 := rowZ_lit w6 [m0, r1, r2, 0] 3 (by intro z hz; simp at hz; rcases hz with rfl | rfl | rfl | rfl <;> exact ⟨by omega, by omega⟩) (by show 4 ≤ 1000; decide)
    obtain ⟨w7, hw⟩ : ∃ W, w6.alloc (.cells #[.int .i64 m0, .int .i64 r1, .int .i64 r2, .int .i64 0] 3) = W := ⟨_, rfl⟩
    have hz : Below w6.heap.size w6 w7 := by rw [← hw]; exact below_box _
    have HF7 := Lib.hid (show (Five w7 u3.heap.size (u3.heap.size + 1) v1.heap.size v2.heap.size v3.heap.size w6.heap.size af nf capf pf jf zf ag ng capg pg jg zg a1 n1 cap1 p1 i1 z1 a2 n2 cap2 p2 i2 z2 a3 n3 cap3 p3 i3 z3 [m0, r1, r2, 0]) from ⟨(Y5.out.1.apart he6.apart hne.1 X2.out).under hz, (Y5.out.2.1.apart he6.apart hne.2.1 X3.out).under hz, (Y5.out.2.2.1.apart he6.apart hne.2.2.1 FX1.out).under hz, (Y5.out.2.2.2.1.apart he6.apart hne.2.2.2.1 FX2.out).under hz, (Y5.out.2.2.2.2.apart he6.apart hne.2.2.2.2 FX3.out).under hz, by rw [← hw]; exact hl6⟩)
    have hb6 := HB5.out.trans (he6.below (Nat.le_refl _))
    have HB7 := Lib.hid (hb6.trans (hz.mono hb6.size))
    have HTS := Lib.hid (show ∀ i, i < 4 → ∃ t : Nat, ([m0, r1, r2, 0] : List Int).getD i 0 = t ∧ t < 1048576 from fun i hi => by
      have : i = 0 ∨ i = 1 ∨ i = 2 ∨ i = 3 := by omega
      rcases this with rfl | rfl | rfl | rfl
      · exact ⟨m0.toNat, by show m0 = _; omega, by omega⟩
      · exact ⟨r1.toNat, by show r1 = _; omega, by omega⟩
      · exact ⟨r2.toNat, by show r2 = _; omega, by omega⟩
      · exact ⟨0, rfl, by omega⟩)
    have hw7 := hw
    clear hs6 he6 hl6 hw hz hb6 hne r10 r11 r20 r21 hm1
    go_wp2_with fail
    try rw [hw7]
    clear hw7
    go_loopw [72] (fun s72 wx => ∃ k : Nat, s72 = .int .i64 k ∧ k ≤ 4 ∧ Hid ((Five wx u3.heap.size (u3.heap.size + 1) v1.heap.size v2.heap.size v3.heap.size w6.heap.size af nf capf pf jf zf ag ng capg pg jg zg a1 n1 cap1 p1 i1 z1 a2 n2 cap2 p2 i2 z2 a3 n3 cap3 p3 i3 z3 [m0, r1, r2, 0]) ∧ Below W.heap.size W wx)) (fun s72 _ => 4 - (intOf s72).toNat)
    case atStart => exact ⟨0, by go_num, by omega, HF7.out, HB7.out⟩
    case round =>
      obtain ⟨k, rfl, hk, HK⟩ := hrel
      obtain ⟨wk, rfl⟩ : ∃ u : World, u = wr := ⟨_, rfl⟩
      by_cases hlt : k < 4
      · obtain ⟨t, ht0, ht1⟩ := HTS.out k hlt
        obtain ⟨x, hx, hcl⟩ := HK.out.1.t.cell k hlt
        obtain rfl : x = ⟨w6.heap.size, 0, none⟩ := (Option.some.inj hx).symm
        have ea : ((⟨w6.heap.size, 0, none⟩ : Addr).add k) = ⟨w6.heap.size, k, none⟩ := by unfold Addr.add; split <;> simp_all
        rw [ea, ht0] at hcl
        clear ea
        have hl4 : (k : Int) < 4 := by omega
        have T9 := Lib.hid (And.intro ht0 ht1)
        clear ht0 hx
        go_wp2_with fail
        clear hcl
        obtain ⟨x1, hx1⟩ : ∃ v, atC zf pf jf t = v := ⟨_, rfl⟩
        obtain ⟨x2, hx2⟩ : ∃ v, atC zg pg jg t = v := ⟨_, rfl⟩
        have HX1 := Lib.hid (And.intro hx1 hx2)
        have HMI := Lib.hid (show Mid x1 ∧ Mid x2 by rw [← hx1, ← hx2]; exact ⟨mid_far OF.out.good ht1, mid_far OG.out.good ht1⟩)
        have HSM := Lib.hid (show enc (eSum zf pf jf zg pg jg t) = plI x1 x2 by rw [← hx1, ← hx2]; exact sum_val OF.out.good OG.out.good (by omega))
        have HMN := Lib.hid (show enc (eMin zf pf jf zg pg jg t) = min x1 x2 by rw [← hx1, ← hx2]; exact min_val OF.out.good OG.out.good (by omega))
        have HMA := Lib.hid (show enc (eMax zf pf jf zg pg jg t) = max x1 x2 by rw [← hx1, ← hx2]; exact max_val OF.out.good OG.out.good (by omega))
        clear hx1 hx2
        have KS := Lib.hid (show ∀ u, (Five u u3.heap.size (u3.heap.size + 1) v1.heap.size v2.heap.size v3.heap.size w6.heap.size af nf capf pf jf zf ag ng capg pg jg zg a1 n1 cap1 p1 i1 z1 a2 n2 cap2 p2 i2 z2 a3 n3 cap3 p3 i3 z3 [m0, r1, r2, 0]) ∧ Below W.heap.size W u → (fun u => (u.cell? ⟨u3.heap.size, 0, none⟩ = some (.slice af nf capf) ∧ u.cell? ⟨u3.heap.size, 1, none⟩ = some (.int .i64 pf) ∧ u.cell? ⟨u3.heap.size, 2, none⟩ = some (.int .i64 jf)) ∧ (u.cell? ⟨u3.heap.size + 1, 0, none⟩ = some (.slice ag ng capg) ∧ u.cell? ⟨u3.heap.size + 1, 1, none⟩ = some (.int .i64 pg) ∧ u.cell? ⟨u3.heap.size + 1, 2, none⟩ = some (.int .i64 jg)) ∧ Hid ((Five u u3.heap.size (u3.heap.size + 1) v1.heap.size v2.heap.size v3.heap.size w6.heap.size af nf capf pf jf zf ag ng capg pg jg zg a1 n1 cap1 p1 i1 z1 a2 n2 cap2 p2 i2 z2 a3 n3 cap3 p3 i3 z3 [m0, r1, r2, 0]) ∧ Below W.heap.size W u)) u from fun u hu => ⟨⟨hu.1.f.box.c0, hu.1.f.box.c1, hu.1.f.box.c2⟩, ⟨hu.1.g.box.c0, hu.1.g.box.c1, hu.1.g.box.c2⟩, hu⟩)
        have O1 := Lib.hid (And.intro (HK.out.1.under (Below.drew (Below.refl _ _))) (Below.drew HK.out.2))
        refine wp_region_keeps (fun u => (u.cell? ⟨u3.heap.size, 0, none⟩ = some (.slice af nf capf) ∧ u.cell? ⟨u3.heap.size, 1, none⟩ = some (.int .i64 pf) ∧ u.cell? ⟨u3.heap.size, 2, none⟩ = some (.int .i64 jf)) ∧ (u.cell? ⟨u3.heap.size + 1, 0, none⟩ = some (.slice ag ng capg) ∧ u.cell? ⟨u3.heap.size + 1, 1, none⟩ = some (.int .i64 pg) ∧ u.cell? ⟨u3.heap.size + 1, 2, none⟩ = some (.int .i64 jg)) ∧ Hid ((Five u u3.heap.size (u3.heap.size + 1) v1.heap.size v2.heap.size v3.heap.size w6.heap.size af nf capf pf jf zf ag ng capg pg jg zg a1 n1 cap1 p1 i1 z1 a2 n2 cap2 p2 i2 z2 a3 n3 cap3 p3 i3 z3 [m0, r1, r2, 0]) ∧ Below W.heap.size W u)) 6 2 (by kernel_rfl) (by kernel_rfl) (KS.out _ O1.out) (fun hHeld0 => ?_)
        refine wpAnyK_take (i := 0) (v := ?_) rfl (by kernel_rfl) (fun _ _ _ h => h) (Or.inl ⟨by rfl, ?_⟩) (by assumption) ?_
        rotate_left
        · (intro w hSw; (try dsimp only at hSw); go_simp; try with_reducible rfl)
        try simp only [Act.put, List.getElem_toArray, List.getElem_cons_zero, List.getElem_cons_succ, List.setIfInBounds_toArray, List.set_cons_zero, List.set_cons_succ]
        refine wpAnyK_take (i := 1) (v := ?_) rfl (by kernel_rfl) (fun _ _ _ h => h) (Or.inl ⟨by rfl, ?_⟩) (by assumption) ?_
        rotate_left
        · (intro w hSw; (try dsimp only at hSw); go_simp; try with_reducible rfl)
        try simp only [Act.put, List.getElem_toArray, List.getElem_cons_zero, List.getElem_cons_succ, List.setIfInBounds_toArray, List.set_cons_zero, List.set_cons_succ]
        refine wpAnyK_take (i := 3) (v := ?_) rfl (by kernel_rfl) (fun _ _ _ h => h) (Or.inl ⟨by rfl, ?_⟩) (by assumption) ?_
        rotate_left
        · (intro w hSw; (try dsimp only at hSw); go_simp; try with_reducible rfl)
        try simp only [Act.put, List.getElem_toArray, List.getElem_cons_zero, List.getElem_cons_succ, List.setIfInBounds_toArray, List.set_cons_zero, List.set_cons_succ]
        refine wpAnyK_take (i := 4) (v := ?_) rfl (by kernel_rfl) (fun _ _ _ h => h) (Or.inl ⟨by rfl, ?_⟩) (by assumption) ?_
        rotate_left
        · (intro w hSw; (try dsimp only at hSw); go_simp; try with_reducible rfl)
        try simp only [Act.put, List.getElem_toArray, List.getElem_cons_zero, List.getElem_cons_succ, List.setIfInBounds_toArray, List.set_cons_zero, List.set_cons_succ]
        refine wpAnyK_step (i := 2) rfl (by kernel_rfl) (fun K hK => ?_)
        go_simp
        with_reducible refine (rat_at af nf capf zf pf jf OF.out.good t t rfl (by omega) x1 HX1.out.1 _ O1.out.1.f.row).mono ?_
        rintro e y1 ⟨rfl, hb1⟩
        have O2 := Lib.hid (And.intro (O1.out.1.under hb1) (O1.out.2.trans (hb1.mono O1.out.2.size)))
        refine hK.out _ _ (KS.out _ O2.out) (fun hHeld1 => ?_)
        clear hK K hHeld0 hb1
        try simp only [Act.put, List.getElem_toArray, List.getElem_cons_zero, List.getElem_cons_succ, List.setIfInBounds_toArray, List.set_cons_zero, List.set_cons_succ]
        refine wpAnyK_step (i := 5) rfl (by kernel_rfl) (fun K hK => ?_)
        go_simp
        with_reducible refine (rat_at ag ng capg zg pg jg OG.out.good t t rfl (by omega) x2 HX1.out.2 _ O2.out.1.g.row).mono ?_
        rintro e y2 ⟨rfl, hb2⟩
        have O3 := Lib.hid (And.intro (O2.out.1.under hb2) (O2.out.2.trans (hb2.mono O2.out.2.size)))
        refine hK.out _ _ (KS.out _ O3.out) (fun hHeld2 => ?_)
        clear hK K hHeld1 hb2
        try simp only [Act.put, List.getElem_toArray, List.getElem_cons_zero, List.getElem_cons_succ, List.setIfInBounds_toArray, List.set_cons_zero, List.set_cons_succ]
        refine wpAnyK_done (by kernel_rfl) ?_
        simp only [List.drop_succ_cons, List.drop_zero]
        clear hHeld2
        obtain ⟨c0, c1, c2, c3, c4, c5⟩ := O3.out.1.p.box
        go_wp2_with fail
        clear c0 c1 c2 c3 c4 c5
        with_reducible refine (value_at a1 n1 cap1 z1 p1 i1 HFp.out.good t t rfl (by omega) (plI x1 x2) (val_of HFp.out.val HSM.out) _ O3.out.1.p.row).mono ?_
        rintro e y3 ⟨rfl, hb3⟩
        have O4 := Lib.hid (And.intro (O3.out.1.under hb3) (O3.out.2.trans (hb3.mono O3.out.2.size)))
        clear hb3
        go_wp2_with fail
        with_reducible refine (lplus_any x1 x2 HMI.out.1 HMI.out.2 _).mono ?_
        rintro e y4 ⟨rfl, rfl⟩
        obtain ⟨c0, c1, c2, c3, c4, c5⟩ := O4.out.1.q.box
        go_wp2_with fail
        clear c0 c1 c2 c3 c4 c5
        rcases (show x1 ≤ x2 ∨ ¬ x1 ≤ x2 by omega) with hle | hle
        · with_reducible refine (value_mx HM2.out t (by omega) 0 (by rw [if_neg (by decide)]) 1 (by rw [if_neg (by decide)]) _ O4.out.1.q.row).mono ?_
          rintro e y5 ⟨rfl, hb5⟩
          have O5 := Lib.hid (And.intro (O4.out.1.under hb5) (O4.out.2.trans (hb5.mono O4.out.2.size)))
          obtain ⟨c0, c1, c2, c3, c4, c5⟩ := O5.out.1.r.box
          clear hb5
          go_wp2_with fail
          clear c0 c1 c2 c3 c4 c5
          with_reducible refine (value_mx HM3.out t (by omega) 0 (by rw [if_neg (by decide)]) 1 (by rw [if_neg (by decide)]) _ O5.out.1.r.row).mono ?_
          rintro e y6 ⟨rfl, hb6⟩
          have O6 := Lib.hid (And.intro (O5.out.1.under hb6) (O5.out.2.trans (hb6.mono O5.out.2.size)))
          clear hb6
          go_wp2_with fail
          go_roundw
          case rel => exact ⟨k + 1, by go_num, by omega, O6.out⟩
          case measure => simp [intOf]; omega
        · with_reducible refine (value_mx HM2.out t (by omega) 0 (by rw [if_neg (by decide)]) 1 (by rw [if_neg (by decide)]) _ O4.out.1.q.row).mono ?_
          rintro e y5 ⟨rfl, hb5⟩
          have O5 := Lib.hid (And.intro (O4.out.1.under hb5) (O4.out.2.trans (hb5.mono O4.out.2.size)))
          obtain ⟨c0, c1, c2, c3, c4, c5⟩ := O5.out.1.r.box
          clear hb5
          go_wp2_with fail
          clear c0 c1 c2 c3 c4 c5
          with_reducible refine (value_mx HM3.out t (by omega) 0 (by rw [if_neg (by decide)]) 1 (by rw [if_neg (by decide)]) _ O5.out.1.r.row).mono ?_
          rintro e y6 ⟨rfl, hb6⟩
          have O6 := Lib.hid (And.intro (O5.out.1.under hb6) (O5.out.2.trans (hb6.mono O5.out.2.size)))
          clear hb6
          go_wp2_with fail
          go_roundw
          case rel => exact ⟨k + 1, by go_num, by omega, O6.out⟩
          case measure => simp [intOf]; omega
      · obtain rfl : k = 4 := by omega
        go_wp2_with fail
        refine (awake5 _).mono ?_
        rintro e y7 ⟨rfl, hb⟩
        have HB9 := Lib.hid (HK.out.2.trans (hb.mono HK.out.2.size))
        clear hb
        go_wp2_with fail
        go_ret
        exact ⟨rfl, HB9.out⟩

end Go.Proofs.Ytenfhjmaljleoaa
