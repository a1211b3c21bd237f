/- The walk of PointwiseTotals. By the verifier's side. -/
import Derived.Test.YtknimlpdpgpliaaLTot
namespace Go.Proofs.Ytknimlpdpgpliaa
open Go.RowKit
set_option linter.unusedSimpArgs false

theorem info_curve : (Try.prog.info? 26).map (fun i => (i.zero, i.size, i.bytes)) = some (some (.agg #[.slice none 0 0, .int .i64 0, .int .i64 0]), 3, 40) := by kernel_rfl

theorem ListC.apart {u v : World} {B b : Nat} {cs : List Cv} (h : ListC u B cs) (ha : Apart b u v) (hB : B ≠ b) (hx : ∀ (i : Nat) (c : Cv), cs[i]? = some c → ∀ x, c.a = some x → ¬ x.block = b) : ListC v B cs := fun i c hc => by
  obtain ⟨⟨h1, h2, h3⟩, h4⟩ := h i c hc
  obtain ⟨k1, _⟩ := acell ha
  have hl := lt_of_cell h1
  exact ⟨⟨(k1 B _ hl hB).trans h1, (k1 B _ hl hB).trans h2, (k1 B _ hl hB).trans h3⟩, h4.row.apart ha (hx i c hc), h4.good, h4.nice⟩

/-- The curve that a number picks. -/
def pickC (cs : List Cv) (z : Int) : Cv := cs.getD z.toNat ⟨none, 0, 0, [], 0, 0⟩
theorem pickC_get {cs : List Cv} {i : Nat} {c : Cv} (h : cs[i]? = some c) : pickC cs (i : Int) = c := by unfold pickC; rw [Int.toNat_natCast, List.getD_eq_getElem?_getD, h]; rfl
/-- The cells of the first k curves that were picked. -/
def cellsK (cs : List Cv) (z : Nat → Int) (k : Nat) : List Value := (List.range k).flatMap fun j => (pickC cs (z j)).vals
theorem cellsK_succ (cs : List Cv) (z : Nat → Int) (k : Nat) : cellsK cs z (k + 1) = cellsK cs z k ++ (pickC cs (z k)).vals := by unfold cellsK; rw [List.range_succ, List.flatMap_append]; simp

theorem p4_get {z0 z1 z2 z3 : Int} (h : P4 z0 z1 z2 z3) (k : Nat) : 0 ≤ Row4.get z0 z1 z2 z3 k ∧ Row4.get z0 z1 z2 z3 k < 4 := by
  unfold Row4.get
  split
  · exact h.b0
  split
  · exact h.b1
  split
  · exact h.b2
  · exact h.b3

/-- The sum of the curves that were picked is that of all. -/
theorem tot_picked {c0 c1 c2 c3 : Cv} {z0 z1 z2 z3 : Int} (h : P4 z0 z1 z2 z3) : tot [pickC [c0, c1, c2, c3] z0, pickC [c0, c1, c2, c3] z1, pickC [c0, c1, c2, c3] z2, pickC [c0, c1, c2, c3] z3] = tot [c0, c1, c2, c3] := by
  funext t
  have e : ∀ a b c d : Cv, tot [a, b, c, d] t = oadd (some 0) (oadd (oadd (oadd (a.E t) (b.E t)) (c.E t)) (d.E t)) := fun a b c d => by
    show oadd (oadd (oadd (oadd (some 0) (a.E t)) (b.E t)) (c.E t)) (d.E t) = _
    ac_rfl
  rw [e, e]
  exact congrArg (oadd (some 0)) (h.sum (fun z => (pickC [c0, c1, c2, c3] z).E t))

/-- What was picked stands, where its cells and its curves do. -/
theorem list_picked {u : World} {B g cap base : Nat} {cs : List Cv} {z0 z1 z2 z3 : Int} {xs : List Value} (h : u.ownsRow base 26 3 (.slice (some ⟨g, 0, none⟩) 4 cap) 4 xs) (hx : xs = cellsK cs (Row4.get z0 z1 z2 z3) 4) (hp : P4 z0 z1 z2 z3) (hc : ListC u B cs) (hl : cs.length = 4) : ListC u g [pickC cs z0, pickC cs z1, pickC cs z2, pickC cs z3] := by
  have hin : ∀ z, 0 ≤ z → z < 4 → CvIn u (pickC cs z) := fun z h0 h4 => by
    obtain ⟨i, rfl⟩ := Int.eq_ofNat_of_zero_le h0
    have hi : cs[i]? = some (cs[i]'(by omega)) := List.getElem?_eq_getElem (by omega)
    rw [pickC_get hi]
    exact (hc i _ hi).2
  have he : cellsK cs (Row4.get z0 z1 z2 z3) 4 = (pickC cs z0).vals ++ (pickC cs z1).vals ++ (pickC cs z2).vals ++ (pickC cs z3).vals := by
    unfold cellsK; simp [List.range_succ, Row4.get]
  have hcell : ∀ j, j < 12 → u.cell? ⟨g, j, none⟩ = ((pickC cs z0).vals ++ (pickC cs z1).vals ++ (pickC cs z2).vals ++ (pickC cs z3).vals)[j]? := fun j hj => by rw [h.cellAt j hj, hx, he]
  intro i c hi
  have h4 : i < 4 := by
    refine Nat.lt_of_not_le fun h => ?_
    rw [List.getElem?_eq_none (by simpa using h)] at hi; cases hi
  have hi4 : i = 0 ∨ i = 1 ∨ i = 2 ∨ i = 3 := by omega
  rcases hi4 with rfl | rfl | rfl | rfl <;> cases hi <;> refine ⟨⟨?_, ?_, ?_⟩, ?_⟩
  · exact hcell 0 (by omega)
  · exact hcell 1 (by omega)
  · exact hcell 2 (by omega)
  · exact hin _ hp.b0.1 hp.b0.2
  · exact hcell 3 (by omega)
  · exact hcell 4 (by omega)
  · exact hcell 5 (by omega)
  · exact hin _ hp.b1.1 hp.b1.2
  · exact hcell 6 (by omega)
  · exact hcell 7 (by omega)
  · exact hcell 8 (by omega)
  · exact hin _ hp.b2.1 hp.b2.2
  · exact hcell 9 (by omega)
  · exact hcell 10 (by omega)
  · exact hcell 11 (by omega)
  · exact hin _ hp.b3.1 hp.b3.2

set_option maxRecDepth 100000 in
set_option maxHeartbeats 6400000 in
theorem pointwiseTotals_walk (W : World) (a : Option Addr) (n cap : Nat) (hrow : RowAt W a n cap) :
    Calls Try.prog 3 #[.slice a n cap] W fun e w' => e = .returned (.bool true) ∧ Below W.heap.size W w' := by
  have HR := Lib.hid hrow
  clear hrow
  go_enter Try.func3, Try.ntmps3
  go_wp2_with fail
  refine (new_any a n cap _ HR.out).mono ?_
  rintro e u1 ⟨rfl, hb1, hz1, ra, rn, rc, hs1⟩
  have HB1 := Lib.hid hb1
  have HS1 := Lib.hid hs1
  have Z1 := Lib.hid hz1
  clear hb1 hz1 hs1
  go_wp2_with fail
  refine (curve_any 5 (by omega) (by omega) _ ra rn rc _ HS1.out).mono ?_
  rintro e u2 ⟨af, nf, capf, zf, pf, jf, rfl, hs2, he2, hr2, ok2, hx2⟩
  have OF := Lib.hid ok2
  have HS2 := Lib.hid hs2
  have R2 := Lib.hid hr2
  have X2 := Lib.hid (show ∀ x, af = some x → ¬ x.block = W.heap.size from fun x hx => by have := hx2 x hx; have := Z1.out; omega)
  have HB2 := Lib.hid (HB1.out.trans (he2.below (Nat.le_refl _) HB1.out.size))
  clear hs2 he2 hr2 ok2 hx2
  go_wp2_with fail
  refine (curve_any 5 (by omega) (by omega) _ ra rn rc _ HS2.out).mono ?_
  rintro e u3 ⟨ag, ng, capg, zg, pg, jg, rfl, hs3, he3, hr3, ok3, hx3⟩
  have OG := Lib.hid ok3
  have HS3 := Lib.hid hs3
  have R3 := Lib.hid hr3
  have R23 := Lib.hid (R2.out.apart he3 X2.out)
  have h9 : W.heap.size < u2.heap.size := lt_of_cell (src_cell HS2.out)
  have X3 := Lib.hid (show ∀ x, ag = some x → ¬ x.block = W.heap.size from fun x hx => by have := hx3 x hx; omega)
  have HB3 := Lib.hid (HB2.out.trans (he3.below (Nat.le_refl _) HB2.out.size))
  clear hs3 he3 hr3 ok3 hx3 h9
  go_wp2_with fail
  refine (curve_any 4 (by omega) (by omega) _ ra rn rc _ HS3.out).mono ?_
  rintro e u4 ⟨ad, nd, capd, zd, pd, jd, rfl, hs4, he4, hr4, ok4, hx4⟩
  have OD := Lib.hid ok4
  have HS4 := Lib.hid hs4
  have R4 := Lib.hid hr4
  have R34 := Lib.hid (R3.out.apart he4 X3.out)
  have R24 := Lib.hid (R23.out.apart he4 X2.out)
  have HB4 := Lib.hid (HB3.out.trans (he4.below (Nat.le_refl _) HB3.out.size))
  have h9 : W.heap.size < u3.heap.size := lt_of_cell (src_cell HS3.out)
  have X4 := Lib.hid (show ∀ x, ad = some x → ¬ x.block = W.heap.size from fun x hx => by have := hx4 x hx; omega)
  clear hs4 he4 hr4 ok4 hx4 h9
  go_wp2_with fail
  refine (curve_any 4 (by omega) (by omega) _ ra rn rc _ HS4.out).mono ?_
  rintro e u5 ⟨ah, nh, caph, zh, ph, jh, rfl, hs5, he5, hr5, ok5, hx5⟩
  have OH := Lib.hid ok5
  have HS5 := Lib.hid hs5
  have h9 : W.heap.size < u4.heap.size := lt_of_cell (src_cell HS4.out)
  have X5 := Lib.hid (show ∀ x, ah = some x → ¬ x.block = W.heap.size from fun x hx => by have := hx5 x hx; omega)
  have C0 := Lib.hid (show CvIn u5 ⟨af, nf, capf, zf, pf, jf⟩ from ⟨R24.out.apart he5 X2.out, OF.out.good, drawn_nice OF.out (by omega)⟩)
  have C1 := Lib.hid (show CvIn u5 ⟨ag, ng, capg, zg, pg, jg⟩ from ⟨R34.out.apart he5 X3.out, OG.out.good, drawn_nice OG.out (by omega)⟩)
  have C2 := Lib.hid (show CvIn u5 ⟨ad, nd, capd, zd, pd, jd⟩ from ⟨R4.out.apart he5 X4.out, OD.out.good, drawn_nice OD.out (by omega)⟩)
  have C3 := Lib.hid (show CvIn u5 ⟨ah, nh, caph, zh, ph, jh⟩ from ⟨hr5, OH.out.good, drawn_nice OH.out (by omega)⟩)
  have HB5 := Lib.hid (HB4.out.trans (he5.below (Nat.le_refl _) HB4.out.size))
  clear hs5 he5 hr5 ok5 hx5 h9
  obtain ⟨cs, hcs⟩ : ∃ cs : List Cv, cs = [⟨af, nf, capf, zf, pf, jf⟩, ⟨ag, ng, capg, zg, pg, jg⟩, ⟨ad, nd, capd, zd, pd, jd⟩, ⟨ah, nh, caph, zh, ph, jh⟩] := ⟨_, rfl⟩
  obtain ⟨w0, hw⟩ : ∃ W, u5.alloc (.cells #[.slice af nf capf, .int .i64 pf, .int .i64 jf, .slice ag ng capg, .int .i64 pg, .int .i64 jg, .slice ad nd capd, .int .i64 pd, .int .i64 jd, .slice ah nh caph, .int .i64 ph, .int .i64 jh] 26) = W := ⟨_, rfl⟩
  have hz : Below u5.heap.size u5 w0 := by rw [← hw]; exact below_box _
  have LC0 := Lib.hid (show ListC w0 u5.heap.size cs by rw [← hw, hcs]; exact list4 C0.out C1.out C2.out C3.out)
  have HCL := Lib.hid (show cs.length = 4 by rw [hcs]; rfl)
  have SR0 := Lib.hid (src_under HS5.out hz)
  have HB0 := Lib.hid (HB5.out.trans (hz.mono HB5.out.size))
  have SW := Lib.hid (show W.heap.size < u5.heap.size from lt_of_cell (src_cell HS5.out))
  have HFX := Lib.hid (show ∀ (i : Nat) (c : Cv), cs[i]? = some c → ∀ x, c.a = some x → ¬ x.block = W.heap.size from fun i c hc => by
    rw [hcs] at hc
    have hi : i < 4 := by
      refine Nat.lt_of_not_le fun h => ?_
      rw [List.getElem?_eq_none (by simpa using h)] at hc; cases hc
    have hi4 : i = 0 ∨ i = 1 ∨ i = 2 ∨ i = 3 := by omega
    rcases hi4 with rfl | rfl | rfl | rfl <;> cases hc
    · exact X2.out
    · exact X3.out
    · exact X4.out
    · exact X5.out)
  have HCS := Lib.hid hcs
  have hw0 := hw
  clear hw hz hcs
  obtain ⟨q0, hiC, hzC0, hzC1, hzC2⟩ := info_parts info_curve
  go_wp2_with fail
  try rw [hw0]
  clear hw0
  refine (mixed4 W.heap.size ra rn rc _ SR0.out).mono ?_
  rintro e w1 ⟨MB, z0, z1, z2, z3, rfl, hm4, hp4, hs6, ha6, hmB⟩
  have M1 := Lib.hid hm4
  have P1 := Lib.hid hp4
  have LC1 := Lib.hid (LC0.out.apart ha6 (by have := SW.out; omega) HFX.out)
  have HB1' := Lib.hid (HB0.out.trans (ha6.below (Nat.le_refl _) HB0.out.size))
  have O0 := Lib.hid (show w1.ownsRow w1.heap.size 26 3 (.slice none 0 0) 0 (cellsK cs (Row4.get z0 z1 z2 z3) 0) from World.ownsRow_nil _ _ _ _)
  have BB0 := Lib.hid (Below.refl w1.heap.size w1)
  clear hm4 hp4 hs6 ha6 hmB
  go_wp2_with fail
  go_loopw [5, 28] (fun s5 s28 wx => ∃ (k : Nat) (sv : Value), s28 = .int .i64 k ∧ s5 = sv ∧ k ≤ 4 ∧ Hid (wx.ownsRow w1.heap.size 26 3 sv k (cellsK cs (Row4.get z0 z1 z2 z3) k)) ∧ Hid (Below w1.heap.size w1 wx)) (fun _ s28 _ => 4 - (intOf s28).toNat)
  case atStart => exact ⟨0, .slice none 0 0, by go_num, rfl, by omega, O0, BB0⟩
  case round =>
    obtain ⟨k, sv, rfl, rfl, hk, HO, HW⟩ := hrel
    obtain ⟨wk, rfl⟩ : ∃ u : World, u = wr := ⟨_, rfl⟩
    by_cases hlt : k < 4
    · obtain ⟨mc, mf⟩ := (M1.out.under HW.out).cell hlt
      obtain ⟨g0, g4⟩ := p4_get P1.out k
      obtain ⟨z, hzk⟩ : ∃ z, Row4.get z0 z1 z2 z3 k = z := ⟨_, rfl⟩
      rw [hzk] at mc g0 g4
      obtain ⟨i, rfl⟩ := Int.eq_ofNat_of_zero_le g0
      have hi4 : i < 4 := by omega
      obtain ⟨c, hc⟩ : ∃ c, cs[i]? = some c := ⟨_, List.getElem?_eq_getElem (by rw [HCL.out]; exact hi4)⟩
      obtain ⟨⟨l0, l1, l2⟩, _⟩ := (LC1.out.under HW.out) i c hc
      have HNX := Lib.hid (show cellsK cs (Row4.get z0 z1 z2 z3) (k + 1) = cellsK cs (Row4.get z0 z1 z2 z3) k ++ c.vals by rw [cellsK_succ, hzk, pickC_get hc])
      have hk5 : (k : Int) < 4 := by omega
      have hi5 : (i : Int) < 4 := by omega
      clear hc g0 g4 mf hzk
      go_wp2_with (at_builtin; refine wpList_append_own _ rfl _ _ 28 rfl w1.heap.size 26 q0 (.agg #[.slice none 0 0, .int .i64 0, .int .i64 0]) 3 40 Try.underlying28 hiC hzC0 hzC1 hzC2 rfl (by decide) _ _ _ rfl (HO.out.alloc _) ⟨wk.heap.size, 0, none⟩ 1 1 c.vals rfl rfl ?c1 ?c2 ?c3 ?c4 ?c5 ?_)
      case c1 =>
        intro j u hj
        match j, hj with
        | 0, hj => cases hj; go_simp
        | 1, hj => cases hj; go_simp
        | 2, hj => cases hj; go_simp
      case c2 =>
        intro u hu
        simp [Cv.vals] at hu
        rcases hu with rfl | rfl | rfl <;> rfl
      case c3 => unfold maxLen; omega
      case c4 => omega
      case c5 => have := HW.out.size; simp; omega
      · intro v' w6 hown' hgrow _
        obtain ⟨g6, cap6, rfl, hg6, hg6'⟩ := hown'.form (Nat.succ_pos _)
        have hrow : ∀ j, _ = some j → w1.heap.size ≤ j := fun j hj => (HO.out.lt j hj).1
        have HO6 := Lib.hid (show w6.ownsRow w1.heap.size 26 3 (.slice (some ⟨g6, 0, none⟩) (k + 1) cap6) (k + 1) (cellsK cs (Row4.get z0 z1 z2 z3) (k + 1)) by rw [HNX.out]; exact hown')
        have hsz := HW.out.size
        have HW6 := Lib.hid ((HW.out.trans ((below_box _).mono hsz)).grown hgrow (by simp; omega) hrow)
        clear hown' hgrow hrow hsz l0 l1 l2 mc
        go_wp2_with fail
        go_roundw
        case rel => exact ⟨k + 1, _, by go_num, rfl, by omega, HO6, HW6⟩
        case measure => simp [intOf]; omega
    · obtain rfl : k = 4 := by omega
      obtain ⟨g, cap', rfl, hg, hg'⟩ := HO.out.form (by omega)
      have LA := Lib.hid (LC1.out.under HW.out)
      have LB := Lib.hid (list_picked HO.out rfl P1.out LA.out HCL.out)
      have HBk := Lib.hid (HB1'.out.trans (HW.out.mono HB1'.out.size))
      go_wp2_with fail
      with_reducible refine (total_any u5.heap.size 4 4 cs HCL.out (by omega) _ LA.out).mono ?_
      rintro e v7 ⟨a7, n7, cap7, z7, p7, i7, rfl, hb, hr, hf, hx⟩
      obtain ⟨w7, hw⟩ : ∃ W, v7.alloc (.cells #[.slice a7 n7 cap7, .int .i64 p7, .int .i64 i7] 26) = W := ⟨_, rfl⟩
      have hz : Below wk.heap.size wk w7 := by rw [← hw]; exact hb.trans ((below_box _).mono hb.size)
      have LB7 := Lib.hid (LB.out.under hz)
      have X7 := Lib.hid (show Bx w7 v7.heap.size a7 n7 cap7 p7 i7 z7 by rw [← hw]; exact Bx.new hr)
      have HF7 := Lib.hid hf
      have HB7 := Lib.hid (HBk.out.trans (hz.mono HBk.out.size))
      have hw7 := hw
      clear hb hr hf hx hz hw
      go_wp2_with fail
      try rw [hw7]
      clear hw7
      with_reducible refine (total_any g 4 cap' _ rfl (by omega) _ LB7.out).mono ?_
      rintro e v8 ⟨a8, n8, cap8, z8, p8, i8, rfl, hb, hr, hf, hx⟩
      obtain ⟨w8, hw⟩ : ∃ W, v8.alloc (.cells #[.slice a8 n8 cap8, .int .i64 p8, .int .i64 i8] 26) = W := ⟨_, rfl⟩
      have hz : Below w7.heap.size w7 w8 := by rw [← hw]; exact hb.trans ((below_box _).mono hb.size)
      have X78 := Lib.hid (X7.out.under hz)
      have X8 := Lib.hid (show Bx w8 v8.heap.size a8 n8 cap8 p8 i8 z8 by rw [← hw]; exact Bx.new hr)
      have HF8 := Lib.hid (show EForm z8 p8 i8 (tot cs) by
        have e : tot [pickC cs z0, pickC cs z1, pickC cs z2, pickC cs z3] = tot cs := by rw [HCS.out]; exact tot_picked P1.out
        rw [← e]; exact hf)
      have HB8 := Lib.hid (HB7.out.trans (hz.mono HB7.out.size))
      have hw8 := hw
      clear hb hr hf hx hz hw
      obtain ⟨c0, c1, c2, c3, c4, c5⟩ := X78.out.box
      obtain ⟨d0, d1, d2, d3, d4, d5⟩ := X8.out.box
      go_wp2_with fail
      try rw [hw8]
      clear hw8 c0 c1 c2 c3 c4 c5 d0 d1 d2 d3 d4 d5
      with_reducible refine (same_at HF7.out HF8.out _ X78.out.row X8.out.row).mono ?_
      rintro e w9 ⟨rfl, hb⟩
      have HB9 := Lib.hid (HB8.out.trans (hb.mono HB8.out.size))
      clear hb
      go_wp2_with fail
      refine (awake5 _).mono ?_
      rintro e y ⟨rfl, hb⟩
      have HBZ := Lib.hid (HB9.out.trans (hb.mono HB9.out.size))
      clear hb
      go_wp2_with fail
      go_ret
      exact ⟨rfl, HBZ.out⟩

end Go.Proofs.Ytknimlpdpgpliaa
