/- The walk of PointwiseLattice. By the verifier's side. -/
import Derived.Test.YtenfhjmaljleoaaJPwT
import Derived.Test.YtenfhjmaljleoaaJPwU
import Derived.Test.YtenfhjmaljleoaaJPwMPwOPwX
namespace Go.Proofs.Ytenfhjmaljleoaa
open Go.RowKit
set_option linter.unusedSimpArgs false

/-- There is no such curve: the zero curve and the error's number. -/
def GivesNo (w : World) (e : Ending) (w' : World) : Prop :=
  ∃ (a : Option Addr) (n cap : Nat) (p inc c : Int), e = .returned (.tuple #[curV a n cap p inc, .int .i64 c]) ∧ Below w.heap.size w w' ∧ RowZ w' a n cap [] ∧ a = none ∧ n = 0 ∧ cap = 0 ∧ p = 0 ∧ inc = 0 ∧ c = 3
theorem GivesE.nothing {E : Nat → Option Int} (hc : ¬ ECan E) {w w' : World} {e : Ending} (h : GivesE E w e w') : GivesNo w e w' := by
  obtain ⟨he, hb⟩ := h.no hc
  exact ⟨none, 0, 0, 0, 0, 3, he, hb, rowZ_none _, rfl, rfl, rfl, rfl, rfl, rfl⟩
theorem same_no {a : Option Addr} {n cap : Nat} {p inc : Int} {a2 : Option Addr} {n2 cap2 : Nat} {p2 inc2 : Int} {X Y : Prop} (h : a = none ∧ n = 0 ∧ cap = 0 ∧ p = 0 ∧ inc = 0 ∧ X) (h2 : a2 = none ∧ n2 = 0 ∧ cap2 = 0 ∧ p2 = 0 ∧ inc2 = 0 ∧ Y) (w : World) (r : RowZ w a n cap []) (r2 : RowZ w a2 n2 cap2 []) :
    Calls Try.prog 48 #[curV a n cap p inc, curV a2 n2 cap2 p2 inc2] w (Says (.bool true) w) := by
  obtain ⟨_, _, _, rfl, rfl, _⟩ := h
  obtain ⟨_, _, _, rfl, rfl, _⟩ := h2
  exact rsame_any a n cap [] 0 0 a2 n2 cap2 [] 0 0 true (by decide) w r r2

/-- The two Booleans. -/
structure BB (u : World) (T : Nat) : Prop where
  b0 : u.cell? ⟨T, 0, none⟩ = some (.bool true)
  b1 : u.cell? ⟨T, 1, none⟩ = some (.bool false)
theorem BB.under {u v : World} {T : Nat} (h : BB u T) (hb : Below u.heap.size u v) : BB v T := ⟨(hb.cell (p := ⟨T, 0, none⟩) (lt_of_cell h.b0)).trans h.b0, (hb.cell (p := ⟨T, 1, none⟩) (lt_of_cell h.b1)).trans h.b1⟩
theorem BB.other {u : World} {T G : Nat} (h : BB u T) (hG : T ≠ G) (i : Nat) (v : Value) : BB (u.setCell ⟨G, i, none⟩ v) T := by
  have hb : (u.setCell ⟨G, i, none⟩ v).heap[T]? = u.heap[T]? := Below.heap_setCell _ _ _ _ hG
  exact ⟨(World.cell?_of_block (w := u) (a := ⟨T, 0, none⟩) hb).trans h.b0, (World.cell?_of_block (w := u) (a := ⟨T, 1, none⟩) hb).trans h.b1⟩
theorem BB.kept {u v : World} {T G : Nat} (h : BB u T) (hb : Below u.heap.size u v) (hG : u.heap.size ≤ G) (v0 v1 v2 : Value) : BB (((v.setCell ⟨G, 0, none⟩ v0).setCell ⟨G, 1, none⟩ v1).setCell ⟨G, 2, none⟩ v2) T := by
  have hl : T < u.heap.size := lt_of_cell h.b0
  exact (((h.under hb).other (by omega) _ _).other (by omega) _ _).other (by omega) _ _
theorem BB.new (w : World) (t : TypeId) : BB (w.alloc (.cells #[.bool true, .bool false] t)) w.heap.size := ⟨by go_simp, by go_simp⟩
theorem Bx.kept {u v : World} {F G : Nat} {a : Option Addr} {n cap p : Nat} {inc : Int} {zs : List Int} (h : Bx u F a n cap p inc zs) (hb : Below u.heap.size u v) (hG : u.heap.size ≤ G) (v0 v1 v2 : Value) : BxI (((v.setCell ⟨G, 0, none⟩ v0).setCell ⟨G, 1, none⟩ v1).setCell ⟨G, 2, none⟩ v2) F a n cap p inc zs := h.i.kept hb hG _ _ _

/-- What stands while both ways are gone through: three curves in boxes, and two Booleans. -/
structure L3 (W u : World) (Ff Fg Fh T : Nat) (af : Option Addr) (nf capf pf : Nat) (jf : Int) (zf : List Int) (ag : Option Addr) (ng capg pg : Nat) (jg : Int) (zg : List Int) (ah : Option Addr) (nh caph ph : Nat) (jh : Int) (zh : List Int) : Prop where
  f : BxI u Ff af nf capf pf jf zf
  g : BxI u Fg ag ng capg pg jg zg
  h : BxI u Fh ah nh caph ph jh zh
  q : BB u T
  below : Below W.heap.size W u

set_option maxRecDepth 100000 in
set_option maxHeartbeats 6400000 in
theorem pointwiseLattice_walk (W : World) (a : Option Addr) (n cap : Nat) (hrow : RowAt W a n cap) :
    Calls Try.prog 13 #[.slice a n cap] W fun e w' => e = .returned (.bool true) ∧ Below W.heap.size W w' := by
  have HR := Lib.hid hrow
  clear hrow
  go_enter Try.func13, Try.ntmps13
  go_wp2_with fail
  refine (new_any a n cap _ HR.out).mono ?_
  rintro e u1 ⟨rfl, hb1, hz1, ra, rn, rc, hs1⟩
  have HB1 := Lib.hid hb1
  have HS1 := Lib.hid hs1
  have Z1 := Lib.hid hz1
  clear hb1 hz1 hs1
  go_wp2_with fail
  refine (curve_any 4 (by omega) (by omega) _ ra rn rc _ HS1.out).mono ?_
  rintro e u2 ⟨af, nf, capf, zf, pf, jf, rfl, hs2, he2, hr2, ok2, hx2⟩
  have OF := Lib.hid ok2
  have HS2 := Lib.hid hs2
  have R2 := Lib.hid hr2
  have X2 := Lib.hid (show ∀ x, af = some x → ¬ x.block = W.heap.size from fun x hx => by have := hx2 x hx; have := Z1.out; omega)
  have HB2 := Lib.hid (HB1.out.trans (he2.below (Nat.le_refl _) HB1.out.size))
  clear hs2 he2 hr2 ok2 hx2
  go_wp2_with fail
  refine (curve_any 4 (by omega) (by omega) _ ra rn rc _ HS2.out).mono ?_
  rintro e u3 ⟨ag, ng, capg, zg, pg, jg, rfl, hs3, he3, hr3, ok3, hx3⟩
  have OG := Lib.hid ok3
  have HS3 := Lib.hid hs3
  have R3 := Lib.hid hr3
  have R23 := Lib.hid (R2.out.apart he3 X2.out)
  have h9 : W.heap.size < u2.heap.size := lt_of_cell (src_cell HS2.out)
  have X3 := Lib.hid (show ∀ x, ag = some x → ¬ x.block = W.heap.size from fun x hx => by have := hx3 x hx; omega)
  have HB3 := Lib.hid (HB2.out.trans (he3.below (Nat.le_refl _) HB2.out.size))
  clear hs3 he3 hr3 ok3 hx3 h9
  go_wp2_with fail
  refine (curve_any 4 (by omega) (by omega) _ ra rn rc _ HS3.out).mono ?_
  rintro e u4 ⟨ah, nh, caph, zh, ph, jh, rfl, hs4, he4, hr4, ok4, hx4⟩
  have OH := Lib.hid ok4
  have HS4 := Lib.hid hs4
  have R4 := Lib.hid hr4
  have R34 := Lib.hid (R3.out.apart he4 X3.out)
  have R24 := Lib.hid (R23.out.apart he4 X2.out)
  have HB4 := Lib.hid (HB3.out.trans (he4.below (Nat.le_refl _) HB3.out.size))
  clear hs4 he4 hr4 ok4 hx4
  obtain ⟨w0, hw⟩ : ∃ W, ((u4.alloc (.cells #[.slice af nf capf, .int .i64 pf, .int .i64 jf] 51)).alloc (.cells #[.slice ag ng capg, .int .i64 pg, .int .i64 jg] 51)).alloc (.cells #[.slice ah nh caph, .int .i64 ph, .int .i64 jh] 51) = W := ⟨_, rfl⟩
  have hz : Below u4.heap.size u4 w0 := by rw [← hw]; exact ((below_box _).alloc (by simp) _).alloc (by simp; omega) _
  have Xf := Lib.hid (show Bx w0 u4.heap.size af nf capf pf jf zf by rw [← hw]; exact ((Bx.new R24.out).under (below_box _)).under (below_box _))
  have Xg := Lib.hid (show Bx w0 (u4.heap.size + 1) ag ng capg pg jg zg by
    rw [← hw]
    have := (Bx.new (p := pg) (inc := jg) (R34.out.alloc (.cells #[.slice af nf capf, .int .i64 pf, .int .i64 jf] 51))).under (below_box (.cells #[.slice ah nh caph, .int .i64 ph, .int .i64 jh] 51))
    rwa [show (u4.alloc (.cells #[.slice af nf capf, .int .i64 pf, .int .i64 jf] 51)).heap.size = u4.heap.size + 1 by simp] at this)
  have Xh := Lib.hid (show Bx w0 (u4.heap.size + 2) ah nh caph ph jh zh by
    rw [← hw]
    have := Bx.new (p := ph) (inc := jh) ((R4.out.alloc (.cells #[.slice af nf capf, .int .i64 pf, .int .i64 jf] 51)).alloc (.cells #[.slice ag ng capg, .int .i64 pg, .int .i64 jg] 51))
    rwa [show ((u4.alloc (.cells #[.slice af nf capf, .int .i64 pf, .int .i64 jf] 51)).alloc (.cells #[.slice ag ng capg, .int .i64 pg, .int .i64 jg] 51)).heap.size = u4.heap.size + 2 by simp] at this)
  have HB5 := Lib.hid (HB4.out.trans (hz.mono HB4.out.size))
  have SR0 := Lib.hid (src_under HS4.out hz)
  have SW := Lib.hid (show W.heap.size < u4.heap.size ∧ u4.heap.size + 3 ≤ w0.heap.size from ⟨lt_of_cell (src_cell HS4.out), by rw [← hw]; simp⟩)
  have NFG := Lib.hid (show Nice 20000 (eSum zf pf jf zg pg jg) from (drawn_nice OF.out (by omega)).sum (drawn_nice OG.out (by omega)))
  have NFH := Lib.hid (show Nice 20000 (eSum zf pf jf zh ph jh) from (drawn_nice OF.out (by omega)).sum (drawn_nice OH.out (by omega)))
  have DF := Lib.hid (drawn_nice OF.out (by omega)).day
  have DG := Lib.hid (drawn_nice OG.out (by omega)).day
  have DH := Lib.hid (drawn_nice OH.out (by omega)).day
  have MF := Lib.hid (mc_good OF.out.good)
  have MG := Lib.hid (mc_good OG.out.good)
  have MH := Lib.hid (mc_good OH.out.good)
  have hw0 := hw
  clear hw hz SR0
  by_cases hc0 : ECan (eMin zf pf jf zg pg jg)
  · obtain ⟨c0, c1, c2, c3, c4, c5⟩ := Xf.out.box
    obtain ⟨d0, d1, d2, d3, d4, d5⟩ := Xg.out.box
    go_wp2_with fail
    try rw [hw0]
    clear hw0
    clear c0 c1 c2 c3 c4 c5 d0 d1 d2 d3 d4 d5
    with_reducible refine ((min_day af nf capf zf pf jf OF.out.good ag ng capg zg pg jg OG.out.good DF.out DG.out _ Xf.out.row Xg.out.row).mono fun _ _ h => h.ok hc0).mono ?_
    rintro e v1 ⟨a1, n1, cap1, z1, p1, i1, rfl, hb, hr, hf, hx⟩
    obtain ⟨w1, hw⟩ : ∃ W, v1.alloc (.cells #[.slice a1 n1 cap1, .int .i64 p1, .int .i64 i1] 51) = W := ⟨_, rfl⟩
    have hz : Below w0.heap.size w0 w1 := by rw [← hw]; exact hb.trans ((below_box _).mono hb.size)
    have Xf_1 := Lib.hid (Xf.out.under hz)
    have Xg_1 := Lib.hid (Xg.out.under hz)
    have Xh_1 := Lib.hid (Xh.out.under hz)
    have HB_1 := Lib.hid (HB5.out.trans (hz.mono HB5.out.size))
    have Xa_1 := Lib.hid (show Bx w1 v1.heap.size a1 n1 cap1 p1 i1 z1 by rw [← hw]; exact Bx.new hr)
    have HFa := Lib.hid hf
    have hw1 := hw
    clear hb hr hf hx hz hw
    obtain ⟨c0, c1, c2, c3, c4, c5⟩ := Xg_1.out.box
    obtain ⟨d0, d1, d2, d3, d4, d5⟩ := Xf_1.out.box
    go_wp2_with fail
    try rw [hw1]
    clear hw1
    clear c0 c1 c2 c3 c4 c5 d0 d1 d2 d3 d4 d5
    with_reducible refine (((min_day ag ng capg zg pg jg OG.out.good af nf capf zf pf jf OF.out.good DG.out DF.out _ Xg_1.out.row Xf_1.out.row).mono fun _ _ h => h.to (show eMin zg pg jg zf pf jf = eMin zf pf jf zg pg jg from funext fun t => by unfold eMin; exact omin_comm _ _)).mono fun _ _ h => h.ok hc0).mono ?_
    rintro e v2 ⟨a2, n2, cap2, z2, p2, i2, rfl, hb, hr, hf, hx⟩
    obtain ⟨w2, hw⟩ : ∃ W, v2.alloc (.cells #[.slice a2 n2 cap2, .int .i64 p2, .int .i64 i2] 51) = W := ⟨_, rfl⟩
    have hz : Below w1.heap.size w1 w2 := by rw [← hw]; exact hb.trans ((below_box _).mono hb.size)
    have Xf_2 := Lib.hid (Xf_1.out.under hz)
    have Xg_2 := Lib.hid (Xg_1.out.under hz)
    have Xh_2 := Lib.hid (Xh_1.out.under hz)
    have Xa_2 := Lib.hid (Xa_1.out.under hz)
    have HB_2 := Lib.hid (HB_1.out.trans (hz.mono HB_1.out.size))
    have Xb_2 := Lib.hid (show Bx w2 v2.heap.size a2 n2 cap2 p2 i2 z2 by rw [← hw]; exact Bx.new hr)
    have HFb := Lib.hid hf
    have hw2 := hw
    clear hb hr hf hx hz hw
    by_cases hc1 : ECan (eMax zf pf jf zg pg jg)
    · obtain ⟨c0, c1, c2, c3, c4, c5⟩ := Xf_2.out.box
      obtain ⟨d0, d1, d2, d3, d4, d5⟩ := Xg_2.out.box
      go_wp2_with fail
      try rw [hw2]
      clear hw2
      clear c0 c1 c2 c3 c4 c5 d0 d1 d2 d3 d4 d5
      with_reducible refine ((max_day af nf capf zf pf jf OF.out.good ag ng capg zg pg jg OG.out.good DF.out DG.out _ Xf_2.out.row Xg_2.out.row).mono fun _ _ h => h.ok hc1).mono ?_
      rintro e v3 ⟨a3, n3, cap3, z3, p3, i3, rfl, hb, hr, hf, hx⟩
      obtain ⟨w3, hw⟩ : ∃ W, v3.alloc (.cells #[.slice a3 n3 cap3, .int .i64 p3, .int .i64 i3] 51) = W := ⟨_, rfl⟩
      have hz : Below w2.heap.size w2 w3 := by rw [← hw]; exact hb.trans ((below_box _).mono hb.size)
      have Xf_3 := Lib.hid (Xf_2.out.under hz)
      have Xg_3 := Lib.hid (Xg_2.out.under hz)
      have Xh_3 := Lib.hid (Xh_2.out.under hz)
      have Xa_3 := Lib.hid (Xa_2.out.under hz)
      have Xb_3 := Lib.hid (Xb_2.out.under hz)
      have HB_3 := Lib.hid (HB_2.out.trans (hz.mono HB_2.out.size))
      have Xc_3 := Lib.hid (show Bx w3 v3.heap.size a3 n3 cap3 p3 i3 z3 by rw [← hw]; exact Bx.new hr)
      have HFc := Lib.hid hf
      have hw3 := hw
      clear hb hr hf hx hz hw
      obtain ⟨c0, c1, c2, c3, c4, c5⟩ := Xa_3.out.box
      obtain ⟨d0, d1, d2, d3, d4, d5⟩ := Xb_3.out.box
      go_wp2_with fail
      try rw [hw3]
      clear hw3
      clear c0 c1 c2 c3 c4 c5 d0 d1 d2 d3 d4 d5
      with_reducible refine (same_at HFa.out HFb.out _ Xa_3.out.row Xb_3.out.row).mono ?_
      rintro e w4 ⟨rfl, hb⟩
      have Xf_4 := Lib.hid (Xf_3.out.under hb)
      have Xg_4 := Lib.hid (Xg_3.out.under hb)
      have Xh_4 := Lib.hid (Xh_3.out.under hb)
      have Xa_4 := Lib.hid (Xa_3.out.under hb)
      have Xb_4 := Lib.hid (Xb_3.out.under hb)
      have Xc_4 := Lib.hid (Xc_3.out.under hb)
      have HB_4 := Lib.hid (HB_3.out.trans (hb.mono HB_3.out.size))
      have SY4 := Lib.hid hb.size
      clear hb
      obtain ⟨c0, c1, c2, c3, c4, c5⟩ := Xa_4.out.box
      obtain ⟨d0, d1, d2, d3, d4, d5⟩ := Xf_4.out.box
      go_wp2_with fail
      clear c0 c1 c2 c3 c4 c5 d0 d1 d2 d3 d4 d5
      with_reducible refine (most_of HFa.out.good OF.out.good (fun t => by rw [HFa.out.val t]; unfold eMin; exact ole_omin_l _ _) _ Xa_4.out.row Xf_4.out.row).mono ?_
      rintro e w5 ⟨rfl, hb⟩
      have Xf_5 := Lib.hid (Xf_4.out.under hb)
      have Xg_5 := Lib.hid (Xg_4.out.under hb)
      have Xh_5 := Lib.hid (Xh_4.out.under hb)
      have Xa_5 := Lib.hid (Xa_4.out.under hb)
      have Xb_5 := Lib.hid (Xb_4.out.under hb)
      have Xc_5 := Lib.hid (Xc_4.out.under hb)
      have HB_5 := Lib.hid (HB_4.out.trans (hb.mono HB_4.out.size))
      have SY5 := Lib.hid hb.size
      clear hb
      obtain ⟨c0, c1, c2, c3, c4, c5⟩ := Xa_5.out.box
      obtain ⟨d0, d1, d2, d3, d4, d5⟩ := Xg_5.out.box
      go_wp2_with fail
      clear c0 c1 c2 c3 c4 c5 d0 d1 d2 d3 d4 d5
      with_reducible refine (most_of HFa.out.good OG.out.good (fun t => by rw [HFa.out.val t]; unfold eMin; exact ole_omin_r _ _) _ Xa_5.out.row Xg_5.out.row).mono ?_
      rintro e w6 ⟨rfl, hb⟩
      have Xf_6 := Lib.hid (Xf_5.out.under hb)
      have Xg_6 := Lib.hid (Xg_5.out.under hb)
      have Xh_6 := Lib.hid (Xh_5.out.under hb)
      have Xa_6 := Lib.hid (Xa_5.out.under hb)
      have Xb_6 := Lib.hid (Xb_5.out.under hb)
      have Xc_6 := Lib.hid (Xc_5.out.under hb)
      have HB_6 := Lib.hid (HB_5.out.trans (hb.mono HB_5.out.size))
      have SY6 := Lib.hid hb.size
      clear hb
      obtain ⟨c0, c1, c2, c3, c4, c5⟩ := Xf_6.out.box
      obtain ⟨d0, d1, d2, d3, d4, d5⟩ := Xc_6.out.box
      go_wp2_with fail
      clear c0 c1 c2 c3 c4 c5 d0 d1 d2 d3 d4 d5
      with_reducible refine (most_of OF.out.good HFc.out.good (fun t => by rw [HFc.out.val t]; unfold eMax; exact ole_omax_l _ _) _ Xf_6.out.row Xc_6.out.row).mono ?_
      rintro e w7 ⟨rfl, hb⟩
      have Xf_7 := Lib.hid (Xf_6.out.under hb)
      have Xg_7 := Lib.hid (Xg_6.out.under hb)
      have Xh_7 := Lib.hid (Xh_6.out.under hb)
      have Xa_7 := Lib.hid (Xa_6.out.under hb)
      have Xb_7 := Lib.hid (Xb_6.out.under hb)
      have Xc_7 := Lib.hid (Xc_6.out.under hb)
      have HB_7 := Lib.hid (HB_6.out.trans (hb.mono HB_6.out.size))
      have SY7 := Lib.hid hb.size
      clear hb
      obtain ⟨c0, c1, c2, c3, c4, c5⟩ := Xg_7.out.box
      obtain ⟨d0, d1, d2, d3, d4, d5⟩ := Xc_7.out.box
      go_wp2_with fail
      clear c0 c1 c2 c3 c4 c5 d0 d1 d2 d3 d4 d5
      with_reducible refine (most_of OG.out.good HFc.out.good (fun t => by rw [HFc.out.val t]; unfold eMax; exact ole_omax_r _ _) _ Xg_7.out.row Xc_7.out.row).mono ?_
      rintro e w8 ⟨rfl, hb⟩
      have Xf_8 := Lib.hid (Xf_7.out.under hb)
      have Xg_8 := Lib.hid (Xg_7.out.under hb)
      have Xh_8 := Lib.hid (Xh_7.out.under hb)
      have Xa_8 := Lib.hid (Xa_7.out.under hb)
      have Xb_8 := Lib.hid (Xb_7.out.under hb)
      have Xc_8 := Lib.hid (Xc_7.out.under hb)
      have HB_8 := Lib.hid (HB_7.out.trans (hb.mono HB_7.out.size))
      have SY8 := Lib.hid hb.size
      clear hb
      obtain ⟨wB, hw⟩ : ∃ W, w8.alloc (.cells #[.bool true, .bool false] 4) = W := ⟨_, rfl⟩
      have hz : Below w8.heap.size w8 wB := by rw [← hw]; exact below_box _
      have HL := Lib.hid (show L3 W wB u4.heap.size (u4.heap.size + 1) (u4.heap.size + 2) w8.heap.size af nf capf pf jf zf ag ng capg pg jg zg ah nh caph ph jh zh from ⟨(Xf_8.out.under hz).i, (Xg_8.out.under hz).i, (Xh_8.out.under hz).i, by rw [← hw]; exact BB.new _ _, HB_8.out.trans (hz.mono HB_8.out.size)⟩)
      have hwB := hw
      clear hw hz
      go_wp2_with fail
      try rw [hwB]
      clear hwB
      go_loopw [117] (fun s117 wx => ∃ k : Nat, s117 = .int .i64 k ∧ k ≤ 2 ∧ Hid (L3 W wx u4.heap.size (u4.heap.size + 1) (u4.heap.size + 2) w8.heap.size af nf capf pf jf zf ag ng capg pg jg zg ah nh caph ph jh zh)) (fun s117 _ => 2 - (intOf s117).toNat)
      case atStart => exact ⟨0, by go_num, by omega, HL⟩
      case round =>
        obtain ⟨k, rfl, hk, HK⟩ := hrel
        obtain ⟨wk, rfl⟩ : ∃ u : World, u = wr := ⟨_, rfl⟩
        rcases (show k = 0 ∨ k = 1 ∨ k = 2 by omega) with rfl | rfl | rfl
        · have Kf := Lib.hid HK.out.f
          have Kg := Lib.hid HK.out.g
          have Kh := Lib.hid HK.out.h
          have Kq := Lib.hid HK.out.q
          have HBK := Lib.hid HK.out.below
          have hcl := HK.out.q.b0
          obtain ⟨c0, c1, c2, c3, c4, c5⟩ := Kg.out.box
          obtain ⟨d0, d1, d2, d3, d4, d5⟩ := Kh.out.box
          go_wp2_with fail
          clear c0 c1 c2 c3 c4 c5 d0 d1 d2 d3 d4 d5
          clear hcl
          with_reducible refine (max_y MG.out MH.out DG.out DH.out _ Kg.out.row Kh.out.row).mono ?_
          rintro e v31 ⟨a31, n31, cap31, z31, p31, i31, c31, rfl, hb, hr, hm, hc, hx⟩
          obtain ⟨w31, hw⟩ : ∃ W, v31.alloc (.cells #[.slice a31 n31 cap31, .int .i64 p31, .int .i64 i31] 51) = W := ⟨_, rfl⟩
          have hz : Below wk.heap.size wk w31 := by rw [← hw]; exact hb.trans ((below_box _).mono hb.size)
          have Xf_31 := Lib.hid (Kf.out.under hz)
          have Xg_31 := Lib.hid (Kg.out.under hz)
          have Xh_31 := Lib.hid (Kh.out.under hz)
          have Xq_31 := Lib.hid (Kq.out.under hz)
          have HB_31 := Lib.hid (HBK.out.trans (hz.mono HBK.out.size))
          have Xx_31 := Lib.hid (show BxI w31 v31.heap.size a31 n31 cap31 p31 i31 z31 by rw [← hw]; exact BxI.new hr)
          have HMx31 := Lib.hid hm
          have HCx31 := Lib.hid hc
          have SZ31 := Lib.hid (show v31.heap.size < w31.heap.size ∧ wk.heap.size ≤ v31.heap.size ∧ W.heap.size ≤ wk.heap.size from ⟨by rw [← hw]; simp, hb.size, HBK.out.size⟩)
          have BZ31 := Lib.hid hz
          have hw31 := hw
          clear hb hr hm hc hx hz hw
          obtain ⟨c0, c1, c2, c3, c4, c5⟩ := Xg_31.out.box
          obtain ⟨d0, d1, d2, d3, d4, d5⟩ := Xh_31.out.box
          go_wp2_with fail
          try rw [hw31]
          clear hw31
          clear c0 c1 c2 c3 c4 c5 d0 d1 d2 d3 d4 d5
          with_reducible refine (min_y MG.out MH.out DG.out DH.out _ Xg_31.out.row Xh_31.out.row).mono ?_
          rintro e v32 ⟨a32, n32, cap32, z32, p32, i32, c32, rfl, hb, hr, hm, hc, hx⟩
          obtain ⟨w32, hw⟩ : ∃ W, (((v32.setCell ⟨v31.heap.size, 0, none⟩ (.slice a32 n32 cap32)).setCell ⟨v31.heap.size, 1, none⟩ (.int .i64 p32)).setCell ⟨v31.heap.size, 2, none⟩ (.int .i64 i32)) = W := ⟨_, rfl⟩
          have hz : Below wk.heap.size wk v32 := BZ31.out.trans (hb.mono BZ31.out.size)
          have Xf_32 := Lib.hid (show BxI w32 u4.heap.size af nf capf pf jf zf by rw [← hw]; exact Kf.out.kept hz SZ31.out.2.1 _ _ _)
          have Xg_32 := Lib.hid (show BxI w32 (u4.heap.size + 1) ag ng capg pg jg zg by rw [← hw]; exact Kg.out.kept hz SZ31.out.2.1 _ _ _)
          have Xh_32 := Lib.hid (show BxI w32 (u4.heap.size + 2) ah nh caph ph jh zh by rw [← hw]; exact Kh.out.kept hz SZ31.out.2.1 _ _ _)
          have Xq_32 := Lib.hid (show BB w32 w8.heap.size by rw [← hw]; exact Kq.out.kept hz SZ31.out.2.1 _ _ _)
          have Xx_32 := Lib.hid (show BxI w32 v31.heap.size a32 n32 cap32 p32 i32 z32 by rw [← hw]; exact (Xx_31.out.under hb).put hr (fun x hx2 hn => by have q1 := hx x hx2; have q2 := SZ31.out; omega))
          have HB_32 := Lib.hid (show Below W.heap.size W w32 by rw [← hw]; exact below_set3 (HBK.out.trans (hz.mono HBK.out.size)) (by have q2 := SZ31.out; omega) _ _ _)
          obtain ⟨h0, h1, h2, h3, h4, h5⟩ := (Xx_31.out.under hb).box
          have HMx32 := Lib.hid hm
          have HCx32 := Lib.hid hc
          have hw32 := hw
          clear hb hr hm hc hx hz hw
          obtain ⟨c0, c1, c2, c3, c4, c5⟩ := Xf_32.out.box
          obtain ⟨d0, d1, d2, d3, d4, d5⟩ := Xx_32.out.box
          go_wp2_with fail
          try rw [hw32]
          clear hw32
          clear c0 c1 c2 c3 c4 c5 d0 d1 d2 d3 d4 d5
          clear h0 h1 h2 h3 h4 h5
          with_reducible refine (sum_y MF.out HMx32.out.mc DF.out (DG.out.min DH.out) _ Xf_32.out.row Xx_32.out.row).mono ?_
          rintro e v33 ⟨a33, n33, cap33, z33, p33, i33, c33, rfl, hb, hr, hm, hc, hx⟩
          obtain ⟨w33, hw⟩ : ∃ W, v33.alloc (.cells #[.slice a33 n33 cap33, .int .i64 p33, .int .i64 i33] 51) = W := ⟨_, rfl⟩
          have hz : Below w32.heap.size w32 w33 := by rw [← hw]; exact hb.trans ((below_box _).mono hb.size)
          have Xf_33 := Lib.hid (Xf_32.out.under hz)
          have Xg_33 := Lib.hid (Xg_32.out.under hz)
          have Xh_33 := Lib.hid (Xh_32.out.under hz)
          have Xq_33 := Lib.hid (Xq_32.out.under hz)
          have Xx_33 := Lib.hid (Xx_32.out.under hz)
          have HB_33 := Lib.hid (HB_32.out.trans (hz.mono HB_32.out.size))
          have Xl_33 := Lib.hid (show BxI w33 v33.heap.size a33 n33 cap33 p33 i33 z33 by rw [← hw]; exact BxI.new hr)
          have HMl33 := Lib.hid hm
          have HCl33 := Lib.hid hc
          have SZ33 := Lib.hid (show v33.heap.size < w33.heap.size ∧ w32.heap.size ≤ v33.heap.size ∧ W.heap.size ≤ w32.heap.size from ⟨by rw [← hw]; simp, hb.size, HB_32.out.size⟩)
          have BZ33 := Lib.hid hz
          have hw33 := hw
          clear hb hr hm hc hx hz hw
          obtain ⟨c0, c1, c2, c3, c4, c5⟩ := Xf_33.out.box
          obtain ⟨d0, d1, d2, d3, d4, d5⟩ := Xg_33.out.box
          go_wp2_with fail
          try rw [hw33]
          clear hw33
          clear c0 c1 c2 c3 c4 c5 d0 d1 d2 d3 d4 d5
          with_reducible refine ((sum_day af nf capf zf pf jf OF.out.good ag ng capg zg pg jg OG.out.good DF.out DG.out _ Xf_33.out.row Xg_33.out.row).mono fun _ _ h => h.ok (NFG.out.can (by omega))).mono ?_
          rintro e v34 ⟨a34, n34, cap34, z34, p34, i34, rfl, hb, hr, hf, hx⟩
          obtain ⟨w34, hw⟩ : ∃ W, v34.alloc (.cells #[.slice a34 n34 cap34, .int .i64 p34, .int .i64 i34] 51) = W := ⟨_, rfl⟩
          have hz : Below w33.heap.size w33 w34 := by rw [← hw]; exact hb.trans ((below_box _).mono hb.size)
          have Xf_34 := Lib.hid (Xf_33.out.under hz)
          have Xg_34 := Lib.hid (Xg_33.out.under hz)
          have Xh_34 := Lib.hid (Xh_33.out.under hz)
          have Xq_34 := Lib.hid (Xq_33.out.under hz)
          have Xx_34 := Lib.hid (Xx_33.out.under hz)
          have Xl_34 := Lib.hid (Xl_33.out.under hz)
          have HB_34 := Lib.hid (HB_33.out.trans (hz.mono HB_33.out.size))
          have Xu_34 := Lib.hid (show Bx w34 v34.heap.size a34 n34 cap34 p34 i34 z34 by rw [← hw]; exact Bx.new hr)
          have HFu := Lib.hid hf
          have hw34 := hw
          clear hb hr hf hx hz hw
          obtain ⟨c0, c1, c2, c3, c4, c5⟩ := Xf_34.out.box
          obtain ⟨d0, d1, d2, d3, d4, d5⟩ := Xh_34.out.box
          go_wp2_with fail
          try rw [hw34]
          clear hw34
          clear c0 c1 c2 c3 c4 c5 d0 d1 d2 d3 d4 d5
          with_reducible refine ((sum_day af nf capf zf pf jf OF.out.good ah nh caph zh ph jh OH.out.good DF.out DH.out _ Xf_34.out.row Xh_34.out.row).mono fun _ _ h => h.ok (NFH.out.can (by omega))).mono ?_
          rintro e v35 ⟨a35, n35, cap35, z35, p35, i35, rfl, hb, hr, hf, hx⟩
          obtain ⟨w35, hw⟩ : ∃ W, v35.alloc (.cells #[.slice a35 n35 cap35, .int .i64 p35, .int .i64 i35] 51) = W := ⟨_, rfl⟩
          have hz : Below w34.heap.size w34 w35 := by rw [← hw]; exact hb.trans ((below_box _).mono hb.size)
          have Xf_35 := Lib.hid (Xf_34.out.under hz)
          have Xg_35 := Lib.hid (Xg_34.out.under hz)
          have Xh_35 := Lib.hid (Xh_34.out.under hz)
          have Xq_35 := Lib.hid (Xq_34.out.under hz)
          have Xx_35 := Lib.hid (Xx_34.out.under hz)
          have Xl_35 := Lib.hid (Xl_34.out.under hz)
          have Xu_35 := Lib.hid (Xu_34.out.under hz)
          have HB_35 := Lib.hid (HB_34.out.trans (hz.mono HB_34.out.size))
          have Xv_35 := Lib.hid (show Bx w35 v35.heap.size a35 n35 cap35 p35 i35 z35 by rw [← hw]; exact Bx.new hr)
          have HFv := Lib.hid hf
          have hw35 := hw
          clear hb hr hf hx hz hw
          obtain ⟨c0, c1, c2, c3, c4, c5⟩ := Xu_35.out.box
          obtain ⟨d0, d1, d2, d3, d4, d5⟩ := Xv_35.out.box
          go_wp2_with fail
          try rw [hw35]
          clear hw35
          clear c0 c1 c2 c3 c4 c5 d0 d1 d2 d3 d4 d5
          with_reducible refine (max_y (mc_of HFu.out) (mc_of HFv.out) NFG.out.day NFH.out.day _ Xu_35.out.row Xv_35.out.row).mono ?_
          rintro e v36 ⟨a36, n36, cap36, z36, p36, i36, c36, rfl, hb, hr, hm, hc, hx⟩
          obtain ⟨w36, hw⟩ : ∃ W, v36.alloc (.cells #[.slice a36 n36 cap36, .int .i64 p36, .int .i64 i36] 51) = W := ⟨_, rfl⟩
          have hz : Below w35.heap.size w35 w36 := by rw [← hw]; exact hb.trans ((below_box _).mono hb.size)
          have Xf_36 := Lib.hid (Xf_35.out.under hz)
          have Xg_36 := Lib.hid (Xg_35.out.under hz)
          have Xh_36 := Lib.hid (Xh_35.out.under hz)
          have Xq_36 := Lib.hid (Xq_35.out.under hz)
          have Xx_36 := Lib.hid (Xx_35.out.under hz)
          have Xl_36 := Lib.hid (Xl_35.out.under hz)
          have Xu_36 := Lib.hid (Xu_35.out.under hz)
          have Xv_36 := Lib.hid (Xv_35.out.under hz)
          have HB_36 := Lib.hid (HB_35.out.trans (hz.mono HB_35.out.size))
          have Xr_36 := Lib.hid (show BxI w36 v36.heap.size a36 n36 cap36 p36 i36 z36 by rw [← hw]; exact BxI.new hr)
          have HMr36 := Lib.hid hm
          have HCr36 := Lib.hid hc
          have SZ36 := Lib.hid (show v36.heap.size < w36.heap.size ∧ w35.heap.size ≤ v36.heap.size ∧ W.heap.size ≤ w35.heap.size from ⟨by rw [← hw]; simp, hb.size, HB_35.out.size⟩)
          have BZ36 := Lib.hid hz
          have hw36 := hw
          clear hb hr hm hc hx hz hw
          obtain ⟨c0, c1, c2, c3, c4, c5⟩ := Xu_36.out.box
          obtain ⟨d0, d1, d2, d3, d4, d5⟩ := Xv_36.out.box
          go_wp2_with fail
          try rw [hw36]
          clear hw36
          clear c0 c1 c2 c3 c4 c5 d0 d1 d2 d3 d4 d5
          with_reducible refine (min_y (mc_of HFu.out) (mc_of HFv.out) NFG.out.day NFH.out.day _ Xu_36.out.row Xv_36.out.row).mono ?_
          rintro e v37 ⟨a37, n37, cap37, z37, p37, i37, c37, rfl, hb, hr, hm, hc, hx⟩
          obtain ⟨w37, hw⟩ : ∃ W, (((v37.setCell ⟨v36.heap.size, 0, none⟩ (.slice a37 n37 cap37)).setCell ⟨v36.heap.size, 1, none⟩ (.int .i64 p37)).setCell ⟨v36.heap.size, 2, none⟩ (.int .i64 i37)) = W := ⟨_, rfl⟩
          have hz : Below w35.heap.size w35 v37 := BZ36.out.trans (hb.mono BZ36.out.size)
          have Xf_37 := Lib.hid (show BxI w37 u4.heap.size af nf capf pf jf zf by rw [← hw]; exact Xf_35.out.kept hz SZ36.out.2.1 _ _ _)
          have Xg_37 := Lib.hid (show BxI w37 (u4.heap.size + 1) ag ng capg pg jg zg by rw [← hw]; exact Xg_35.out.kept hz SZ36.out.2.1 _ _ _)
          have Xh_37 := Lib.hid (show BxI w37 (u4.heap.size + 2) ah nh caph ph jh zh by rw [← hw]; exact Xh_35.out.kept hz SZ36.out.2.1 _ _ _)
          have Xq_37 := Lib.hid (show BB w37 w8.heap.size by rw [← hw]; exact Xq_35.out.kept hz SZ36.out.2.1 _ _ _)
          have Xl_37 := Lib.hid (show BxI w37 v33.heap.size a33 n33 cap33 p33 i33 z33 by rw [← hw]; exact Xl_35.out.kept hz SZ36.out.2.1 _ _ _)
          have Xu_37 := Lib.hid (show BxI w37 v34.heap.size a34 n34 cap34 p34 i34 z34 by rw [← hw]; exact Xu_35.out.kept hz SZ36.out.2.1 _ _ _)
          have Xv_37 := Lib.hid (show BxI w37 v35.heap.size a35 n35 cap35 p35 i35 z35 by rw [← hw]; exact Xv_35.out.kept hz SZ36.out.2.1 _ _ _)
          have Xr_37 := Lib.hid (show BxI w37 v36.heap.size a37 n37 cap37 p37 i37 z37 by rw [← hw]; exact (Xr_36.out.under hb).put hr (fun x hx2 hn => by have q1 := hx x hx2; have q2 := SZ36.out; omega))
          have HB_37 := Lib.hid (show Below W.heap.size W w37 by rw [← hw]; exact below_set3 (HB_35.out.trans (hz.mono HB_35.out.size)) (by have q2 := SZ36.out; omega) _ _ _)
          obtain ⟨h0, h1, h2, h3, h4, h5⟩ := (Xr_36.out.under hb).box
          have HMr37 := Lib.hid hm
          have HCr37 := Lib.hid hc
          have hw37 := hw
          clear hb hr hm hc hx hz hw
          have KE := Lib.hid (show L3 W w37 u4.heap.size (u4.heap.size + 1) (u4.heap.size + 2) w8.heap.size af nf capf pf jf zf ag ng capg pg jg zg ah nh caph ph jh zh from ⟨Xf_37.out, Xg_37.out, Xh_37.out, Xq_37.out, HB_37.out⟩)
          rcases HCx32.out with rfl | rfl | rfl
          · rcases HCl33.out with rfl | rfl | rfl
            · rcases HCr37.out with rfl | rfl | rfl
              · obtain ⟨ql, hql, hfl⟩ := HMl33.out.ok
                obtain ⟨qr, hqr, hfr⟩ := HMr37.out.ok
                subst hql hqr
                have HFl := Lib.hid hfl
                have HFr := Lib.hid (show EForm _ _ _ (fun t => oadd (eC zf pf jf t) (omin (eC zg pg jg t) (eC zh ph jh t))) by rw [show (fun t => oadd (eC zf pf jf t) (omin (eC zg pg jg t) (eC zh ph jh t))) = fun t => omin (eSum zf pf jf zg pg jg t) (eSum zf pf jf zh ph jh t) from funext fun t => oadd_omin _ _ _]; exact hfr)
                clear hfl hfr
                obtain ⟨c0, c1, c2, c3, c4, c5⟩ := Xl_37.out.box
                obtain ⟨d0, d1, d2, d3, d4, d5⟩ := Xr_37.out.box
                go_wp2_with fail
                try rw [hw37]
                clear hw37
                clear c0 c1 c2 c3 c4 c5 d0 d1 d2 d3 d4 d5
                clear h0 h1 h2 h3 h4 h5
                with_reducible refine (same_at HFl.out HFr.out _ Xl_37.out.row Xr_37.out.row).mono ?_
                rintro e w39 ⟨rfl, hb⟩
                have Xf_39 := Lib.hid (Xf_37.out.under hb)
                have Xg_39 := Lib.hid (Xg_37.out.under hb)
                have Xh_39 := Lib.hid (Xh_37.out.under hb)
                have Xq_39 := Lib.hid (Xq_37.out.under hb)
                have Xl_39 := Lib.hid (Xl_37.out.under hb)
                have Xu_39 := Lib.hid (Xu_37.out.under hb)
                have Xv_39 := Lib.hid (Xv_37.out.under hb)
                have Xr_39 := Lib.hid (Xr_37.out.under hb)
                have HB_39 := Lib.hid (HB_37.out.trans (hb.mono HB_37.out.size))
                have SY39 := Lib.hid hb.size
                clear hb
                go_wp2_with fail
                have KE2 := Lib.hid (show L3 W w39 u4.heap.size (u4.heap.size + 1) (u4.heap.size + 2) w8.heap.size af nf capf pf jf zf ag ng capg pg jg zg ah nh caph ph jh zh from ⟨Xf_39.out, Xg_39.out, Xh_39.out, Xq_39.out, HB_39.out⟩)
                go_roundw
                case rel => exact ⟨1, by go_num, by omega, KE2⟩
                case measure => simp [intOf]
              · go_wp2_with fail
                try rw [hw37]
                clear hw37
                clear h0 h1 h2 h3 h4 h5
                go_roundw
                case rel => exact ⟨1, by go_num, by omega, KE⟩
                case measure => simp [intOf]
              · go_wp2_with fail
                try rw [hw37]
                clear hw37
                clear h0 h1 h2 h3 h4 h5
                go_roundw
                case rel => exact ⟨1, by go_num, by omega, KE⟩
                case measure => simp [intOf]
            · go_wp2_with fail
              try rw [hw37]
              clear hw37
              clear h0 h1 h2 h3 h4 h5
              go_roundw
              case rel => exact ⟨1, by go_num, by omega, KE⟩
              case measure => simp [intOf]
            · go_wp2_with fail
              try rw [hw37]
              clear hw37
              clear h0 h1 h2 h3 h4 h5
              go_roundw
              case rel => exact ⟨1, by go_num, by omega, KE⟩
              case measure => simp [intOf]
          · go_wp2_with fail
            try rw [hw37]
            clear hw37
            clear h0 h1 h2 h3 h4 h5
            go_roundw
            case rel => exact ⟨1, by go_num, by omega, KE⟩
            case measure => simp [intOf]
          · go_wp2_with fail
            try rw [hw37]
            clear hw37
            clear h0 h1 h2 h3 h4 h5
            go_roundw
            case rel => exact ⟨1, by go_num, by omega, KE⟩
            case measure => simp [intOf]
        · have Kf := Lib.hid HK.out.f
          have Kg := Lib.hid HK.out.g
          have Kh := Lib.hid HK.out.h
          have Kq := Lib.hid HK.out.q
          have HBK := Lib.hid HK.out.below
          have hcl := HK.out.q.b1
          obtain ⟨c0, c1, c2, c3, c4, c5⟩ := Kg.out.box
          obtain ⟨d0, d1, d2, d3, d4, d5⟩ := Kh.out.box
          go_wp2_with fail
          clear c0 c1 c2 c3 c4 c5 d0 d1 d2 d3 d4 d5
          clear hcl
          with_reducible refine (max_y MG.out MH.out DG.out DH.out _ Kg.out.row Kh.out.row).mono ?_
          rintro e v51 ⟨a51, n51, cap51, z51, p51, i51, c51, rfl, hb, hr, hm, hc, hx⟩
          obtain ⟨w51, hw⟩ : ∃ W, v51.alloc (.cells #[.slice a51 n51 cap51, .int .i64 p51, .int .i64 i51] 51) = W := ⟨_, rfl⟩
          have hz : Below wk.heap.size wk w51 := by rw [← hw]; exact hb.trans ((below_box _).mono hb.size)
          have Xf_51 := Lib.hid (Kf.out.under hz)
          have Xg_51 := Lib.hid (Kg.out.under hz)
          have Xh_51 := Lib.hid (Kh.out.under hz)
          have Xq_51 := Lib.hid (Kq.out.under hz)
          have HB_51 := Lib.hid (HBK.out.trans (hz.mono HBK.out.size))
          have Xx_51 := Lib.hid (show BxI w51 v51.heap.size a51 n51 cap51 p51 i51 z51 by rw [← hw]; exact BxI.new hr)
          have HMx51 := Lib.hid hm
          have HCx51 := Lib.hid hc
          have SZ51 := Lib.hid (show v51.heap.size < w51.heap.size ∧ wk.heap.size ≤ v51.heap.size ∧ W.heap.size ≤ wk.heap.size from ⟨by rw [← hw]; simp, hb.size, HBK.out.size⟩)
          have BZ51 := Lib.hid hz
          have hw51 := hw
          clear hb hr hm hc hx hz hw
          obtain ⟨c0, c1, c2, c3, c4, c5⟩ := Xf_51.out.box
          obtain ⟨d0, d1, d2, d3, d4, d5⟩ := Xx_51.out.box
          go_wp2_with fail
          try rw [hw51]
          clear hw51
          clear c0 c1 c2 c3 c4 c5 d0 d1 d2 d3 d4 d5
          with_reducible refine (sum_y MF.out HMx51.out.mc DF.out (DG.out.max DH.out) _ Xf_51.out.row Xx_51.out.row).mono ?_
          rintro e v52 ⟨a52, n52, cap52, z52, p52, i52, c52, rfl, hb, hr, hm, hc, hx⟩
          obtain ⟨w52, hw⟩ : ∃ W, v52.alloc (.cells #[.slice a52 n52 cap52, .int .i64 p52, .int .i64 i52] 51) = W := ⟨_, rfl⟩
          have hz : Below w51.heap.size w51 w52 := by rw [← hw]; exact hb.trans ((below_box _).mono hb.size)
          have Xf_52 := Lib.hid (Xf_51.out.under hz)
          have Xg_52 := Lib.hid (Xg_51.out.under hz)
          have Xh_52 := Lib.hid (Xh_51.out.under hz)
          have Xq_52 := Lib.hid (Xq_51.out.under hz)
          have Xx_52 := Lib.hid (Xx_51.out.under hz)
          have HB_52 := Lib.hid (HB_51.out.trans (hz.mono HB_51.out.size))
          have Xl_52 := Lib.hid (show BxI w52 v52.heap.size a52 n52 cap52 p52 i52 z52 by rw [← hw]; exact BxI.new hr)
          have HMl52 := Lib.hid hm
          have HCl52 := Lib.hid hc
          have SZ52 := Lib.hid (show v52.heap.size < w52.heap.size ∧ w51.heap.size ≤ v52.heap.size ∧ W.heap.size ≤ w51.heap.size from ⟨by rw [← hw]; simp, hb.size, HB_51.out.size⟩)
          have BZ52 := Lib.hid hz
          have hw52 := hw
          clear hb hr hm hc hx hz hw
          obtain ⟨c0, c1, c2, c3, c4, c5⟩ := Xf_52.out.box
          obtain ⟨d0, d1, d2, d3, d4, d5⟩ := Xg_52.out.box
          go_wp2_with fail
          try rw [hw52]
          clear hw52
          clear c0 c1 c2 c3 c4 c5 d0 d1 d2 d3 d4 d5
          with_reducible refine ((sum_day af nf capf zf pf jf OF.out.good ag ng capg zg pg jg OG.out.good DF.out DG.out _ Xf_52.out.row Xg_52.out.row).mono fun _ _ h => h.ok (NFG.out.can (by omega))).mono ?_
          rintro e v53 ⟨a53, n53, cap53, z53, p53, i53, rfl, hb, hr, hf, hx⟩
          obtain ⟨w53, hw⟩ : ∃ W, v53.alloc (.cells #[.slice a53 n53 cap53, .int .i64 p53, .int .i64 i53] 51) = W := ⟨_, rfl⟩
          have hz : Below w52.heap.size w52 w53 := by rw [← hw]; exact hb.trans ((below_box _).mono hb.size)
          have Xf_53 := Lib.hid (Xf_52.out.under hz)
          have Xg_53 := Lib.hid (Xg_52.out.under hz)
          have Xh_53 := Lib.hid (Xh_52.out.under hz)
          have Xq_53 := Lib.hid (Xq_52.out.under hz)
          have Xx_53 := Lib.hid (Xx_52.out.under hz)
          have Xl_53 := Lib.hid (Xl_52.out.under hz)
          have HB_53 := Lib.hid (HB_52.out.trans (hz.mono HB_52.out.size))
          have Xu_53 := Lib.hid (show Bx w53 v53.heap.size a53 n53 cap53 p53 i53 z53 by rw [← hw]; exact Bx.new hr)
          have HFu := Lib.hid hf
          have hw53 := hw
          clear hb hr hf hx hz hw
          obtain ⟨c0, c1, c2, c3, c4, c5⟩ := Xf_53.out.box
          obtain ⟨d0, d1, d2, d3, d4, d5⟩ := Xh_53.out.box
          go_wp2_with fail
          try rw [hw53]
          clear hw53
          clear c0 c1 c2 c3 c4 c5 d0 d1 d2 d3 d4 d5
          with_reducible refine ((sum_day af nf capf zf pf jf OF.out.good ah nh caph zh ph jh OH.out.good DF.out DH.out _ Xf_53.out.row Xh_53.out.row).mono fun _ _ h => h.ok (NFH.out.can (by omega))).mono ?_
          rintro e v54 ⟨a54, n54, cap54, z54, p54, i54, rfl, hb, hr, hf, hx⟩
          obtain ⟨w54, hw⟩ : ∃ W, v54.alloc (.cells #[.slice a54 n54 cap54, .int .i64 p54, .int .i64 i54] 51) = W := ⟨_, rfl⟩
          have hz : Below w53.heap.size w53 w54 := by rw [← hw]; exact hb.trans ((below_box _).mono hb.size)
          have Xf_54 := Lib.hid (Xf_53.out.under hz)
          have Xg_54 := Lib.hid (Xg_53.out.under hz)
          have Xh_54 := Lib.hid (Xh_53.out.under hz)
          have Xq_54 := Lib.hid (Xq_53.out.under hz)
          have Xx_54 := Lib.hid (Xx_53.out.under hz)
          have Xl_54 := Lib.hid (Xl_53.out.under hz)
          have Xu_54 := Lib.hid (Xu_53.out.under hz)
          have HB_54 := Lib.hid (HB_53.out.trans (hz.mono HB_53.out.size))
          have Xv_54 := Lib.hid (show Bx w54 v54.heap.size a54 n54 cap54 p54 i54 z54 by rw [← hw]; exact Bx.new hr)
          have HFv := Lib.hid hf
          have hw54 := hw
          clear hb hr hf hx hz hw
          obtain ⟨c0, c1, c2, c3, c4, c5⟩ := Xu_54.out.box
          obtain ⟨d0, d1, d2, d3, d4, d5⟩ := Xv_54.out.box
          go_wp2_with fail
          try rw [hw54]
          clear hw54
          clear c0 c1 c2 c3 c4 c5 d0 d1 d2 d3 d4 d5
          with_reducible refine (max_y (mc_of HFu.out) (mc_of HFv.out) NFG.out.day NFH.out.day _ Xu_54.out.row Xv_54.out.row).mono ?_
          rintro e v55 ⟨a55, n55, cap55, z55, p55, i55, c55, rfl, hb, hr, hm, hc, hx⟩
          obtain ⟨w55, hw⟩ : ∃ W, v55.alloc (.cells #[.slice a55 n55 cap55, .int .i64 p55, .int .i64 i55] 51) = W := ⟨_, rfl⟩
          have hz : Below w54.heap.size w54 w55 := by rw [← hw]; exact hb.trans ((below_box _).mono hb.size)
          have Xf_55 := Lib.hid (Xf_54.out.under hz)
          have Xg_55 := Lib.hid (Xg_54.out.under hz)
          have Xh_55 := Lib.hid (Xh_54.out.under hz)
          have Xq_55 := Lib.hid (Xq_54.out.under hz)
          have Xx_55 := Lib.hid (Xx_54.out.under hz)
          have Xl_55 := Lib.hid (Xl_54.out.under hz)
          have Xu_55 := Lib.hid (Xu_54.out.under hz)
          have Xv_55 := Lib.hid (Xv_54.out.under hz)
          have HB_55 := Lib.hid (HB_54.out.trans (hz.mono HB_54.out.size))
          have Xr_55 := Lib.hid (show BxI w55 v55.heap.size a55 n55 cap55 p55 i55 z55 by rw [← hw]; exact BxI.new hr)
          have HMr55 := Lib.hid hm
          have HCr55 := Lib.hid hc
          have SZ55 := Lib.hid (show v55.heap.size < w55.heap.size ∧ w54.heap.size ≤ v55.heap.size ∧ W.heap.size ≤ w54.heap.size from ⟨by rw [← hw]; simp, hb.size, HB_54.out.size⟩)
          have BZ55 := Lib.hid hz
          have hw55 := hw
          clear hb hr hm hc hx hz hw
          have KE := Lib.hid (show L3 W w55 u4.heap.size (u4.heap.size + 1) (u4.heap.size + 2) w8.heap.size af nf capf pf jf zf ag ng capg pg jg zg ah nh caph ph jh zh from ⟨Xf_55.out, Xg_55.out, Xh_55.out, Xq_55.out, HB_55.out⟩)
          rcases HCx51.out with rfl | rfl | rfl
          · rcases HCl52.out with rfl | rfl | rfl
            · rcases HCr55.out with rfl | rfl | rfl
              · obtain ⟨ql, hql, hfl⟩ := HMl52.out.ok
                obtain ⟨qr, hqr, hfr⟩ := HMr55.out.ok
                subst hql hqr
                have HFl := Lib.hid hfl
                have HFr := Lib.hid (show EForm _ _ _ (fun t => oadd (eC zf pf jf t) (omax (eC zg pg jg t) (eC zh ph jh t))) by rw [show (fun t => oadd (eC zf pf jf t) (omax (eC zg pg jg t) (eC zh ph jh t))) = fun t => omax (eSum zf pf jf zg pg jg t) (eSum zf pf jf zh ph jh t) from funext fun t => oadd_omax _ _ _]; exact hfr)
                clear hfl hfr
                obtain ⟨c0, c1, c2, c3, c4, c5⟩ := Xl_55.out.box
                obtain ⟨d0, d1, d2, d3, d4, d5⟩ := Xr_55.out.box
                go_wp2_with fail
                try rw [hw55]
                clear hw55
                clear c0 c1 c2 c3 c4 c5 d0 d1 d2 d3 d4 d5
                with_reducible refine (same_at HFl.out HFr.out _ Xl_55.out.row Xr_55.out.row).mono ?_
                rintro e w59 ⟨rfl, hb⟩
                have Xf_59 := Lib.hid (Xf_55.out.under hb)
                have Xg_59 := Lib.hid (Xg_55.out.under hb)
                have Xh_59 := Lib.hid (Xh_55.out.under hb)
                have Xq_59 := Lib.hid (Xq_55.out.under hb)
                have Xx_59 := Lib.hid (Xx_55.out.under hb)
                have Xl_59 := Lib.hid (Xl_55.out.under hb)
                have Xu_59 := Lib.hid (Xu_55.out.under hb)
                have Xv_59 := Lib.hid (Xv_55.out.under hb)
                have Xr_59 := Lib.hid (Xr_55.out.under hb)
                have HB_59 := Lib.hid (HB_55.out.trans (hb.mono HB_55.out.size))
                have SY59 := Lib.hid hb.size
                clear hb
                go_wp2_with fail
                have KE2 := Lib.hid (show L3 W w59 u4.heap.size (u4.heap.size + 1) (u4.heap.size + 2) w8.heap.size af nf capf pf jf zf ag ng capg pg jg zg ah nh caph ph jh zh from ⟨Xf_59.out, Xg_59.out, Xh_59.out, Xq_59.out, HB_59.out⟩)
                go_roundw
                case rel => exact ⟨2, by go_num, by omega, KE2⟩
                case measure => simp [intOf]
              · go_wp2_with fail
                try rw [hw55]
                clear hw55
                go_roundw
                case rel => exact ⟨2, by go_num, by omega, KE⟩
                case measure => simp [intOf]
              · go_wp2_with fail
                try rw [hw55]
                clear hw55
                go_roundw
                case rel => exact ⟨2, by go_num, by omega, KE⟩
                case measure => simp [intOf]
            · go_wp2_with fail
              try rw [hw55]
              clear hw55
              go_roundw
              case rel => exact ⟨2, by go_num, by omega, KE⟩
              case measure => simp [intOf]
            · go_wp2_with fail
              try rw [hw55]
              clear hw55
              go_roundw
              case rel => exact ⟨2, by go_num, by omega, KE⟩
              case measure => simp [intOf]
          · go_wp2_with fail
            try rw [hw55]
            clear hw55
            go_roundw
            case rel => exact ⟨2, by go_num, by omega, KE⟩
            case measure => simp [intOf]
          · go_wp2_with fail
            try rw [hw55]
            clear hw55
            go_roundw
            case rel => exact ⟨2, by go_num, by omega, KE⟩
            case measure => simp [intOf]
        · have Kf := Lib.hid HK.out.f
          have Kg := Lib.hid HK.out.g
          have Kh := Lib.hid HK.out.h
          have HBK := Lib.hid HK.out.below
          obtain ⟨c0, c1, c2, c3, c4, c5⟩ := Kg.out.box
          obtain ⟨d0, d1, d2, d3, d4, d5⟩ := Kh.out.box
          go_wp2_with fail
          clear c0 c1 c2 c3 c4 c5 d0 d1 d2 d3 d4 d5
          with_reducible refine (max_y MG.out MH.out DG.out DH.out _ Kg.out.row Kh.out.row).mono ?_
          rintro e v71 ⟨a71, n71, cap71, z71, p71, i71, c71, rfl, hb, hr, hm, hc, hx⟩
          obtain ⟨w71, hw⟩ : ∃ W, v71.alloc (.cells #[.slice a71 n71 cap71, .int .i64 p71, .int .i64 i71] 51) = W := ⟨_, rfl⟩
          have hz : Below wk.heap.size wk w71 := by rw [← hw]; exact hb.trans ((below_box _).mono hb.size)
          have Xf_71 := Lib.hid (Kf.out.under hz)
          have Xg_71 := Lib.hid (Kg.out.under hz)
          have Xh_71 := Lib.hid (Kh.out.under hz)
          have HB_71 := Lib.hid (HBK.out.trans (hz.mono HBK.out.size))
          have Xx_71 := Lib.hid (show BxI w71 v71.heap.size a71 n71 cap71 p71 i71 z71 by rw [← hw]; exact BxI.new hr)
          have HMx71 := Lib.hid hm
          have HCx71 := Lib.hid hc
          have SZ71 := Lib.hid (show v71.heap.size < w71.heap.size ∧ wk.heap.size ≤ v71.heap.size ∧ W.heap.size ≤ wk.heap.size from ⟨by rw [← hw]; simp, hb.size, HBK.out.size⟩)
          have BZ71 := Lib.hid hz
          have hw71 := hw
          clear hb hr hm hc hx hz hw
          obtain ⟨c0, c1, c2, c3, c4, c5⟩ := Xf_71.out.box
          obtain ⟨d0, d1, d2, d3, d4, d5⟩ := Xx_71.out.box
          go_wp2_with fail
          try rw [hw71]
          clear hw71
          clear c0 c1 c2 c3 c4 c5 d0 d1 d2 d3 d4 d5
          with_reducible refine (min_y MF.out HMx71.out.mc DF.out (DG.out.max DH.out) _ Xf_71.out.row Xx_71.out.row).mono ?_
          rintro e v72 ⟨a72, n72, cap72, z72, p72, i72, c72, rfl, hb, hr, hm, hc, hx⟩
          obtain ⟨w72, hw⟩ : ∃ W, v72.alloc (.cells #[.slice a72 n72 cap72, .int .i64 p72, .int .i64 i72] 51) = W := ⟨_, rfl⟩
          have hz : Below w71.heap.size w71 w72 := by rw [← hw]; exact hb.trans ((below_box _).mono hb.size)
          have Xf_72 := Lib.hid (Xf_71.out.under hz)
          have Xg_72 := Lib.hid (Xg_71.out.under hz)
          have Xh_72 := Lib.hid (Xh_71.out.under hz)
          have Xx_72 := Lib.hid (Xx_71.out.under hz)
          have HB_72 := Lib.hid (HB_71.out.trans (hz.mono HB_71.out.size))
          have Xl_72 := Lib.hid (show BxI w72 v72.heap.size a72 n72 cap72 p72 i72 z72 by rw [← hw]; exact BxI.new hr)
          have HMl72 := Lib.hid hm
          have HCl72 := Lib.hid hc
          have SZ72 := Lib.hid (show v72.heap.size < w72.heap.size ∧ w71.heap.size ≤ v72.heap.size ∧ W.heap.size ≤ w71.heap.size from ⟨by rw [← hw]; simp, hb.size, HB_71.out.size⟩)
          have BZ72 := Lib.hid hz
          have hw72 := hw
          clear hb hr hm hc hx hz hw
          obtain ⟨c0, c1, c2, c3, c4, c5⟩ := Xf_72.out.box
          obtain ⟨d0, d1, d2, d3, d4, d5⟩ := Xg_72.out.box
          go_wp2_with fail
          try rw [hw72]
          clear hw72
          clear c0 c1 c2 c3 c4 c5 d0 d1 d2 d3 d4 d5
          with_reducible refine (min_y MF.out MG.out DF.out DG.out _ Xf_72.out.row Xg_72.out.row).mono ?_
          rintro e v73 ⟨a73, n73, cap73, z73, p73, i73, c73, rfl, hb, hr, hm, hc, hx⟩
          obtain ⟨w73, hw⟩ : ∃ W, v73.alloc (.cells #[.slice a73 n73 cap73, .int .i64 p73, .int .i64 i73] 51) = W := ⟨_, rfl⟩
          have hz : Below w72.heap.size w72 w73 := by rw [← hw]; exact hb.trans ((below_box _).mono hb.size)
          have Xf_73 := Lib.hid (Xf_72.out.under hz)
          have Xg_73 := Lib.hid (Xg_72.out.under hz)
          have Xh_73 := Lib.hid (Xh_72.out.under hz)
          have Xx_73 := Lib.hid (Xx_72.out.under hz)
          have Xl_73 := Lib.hid (Xl_72.out.under hz)
          have HB_73 := Lib.hid (HB_72.out.trans (hz.mono HB_72.out.size))
          have Xu_73 := Lib.hid (show BxI w73 v73.heap.size a73 n73 cap73 p73 i73 z73 by rw [← hw]; exact BxI.new hr)
          have HMu73 := Lib.hid hm
          have HCu73 := Lib.hid hc
          have SZ73 := Lib.hid (show v73.heap.size < w73.heap.size ∧ w72.heap.size ≤ v73.heap.size ∧ W.heap.size ≤ w72.heap.size from ⟨by rw [← hw]; simp, hb.size, HB_72.out.size⟩)
          have BZ73 := Lib.hid hz
          have hw73 := hw
          clear hb hr hm hc hx hz hw
          obtain ⟨c0, c1, c2, c3, c4, c5⟩ := Xf_73.out.box
          obtain ⟨d0, d1, d2, d3, d4, d5⟩ := Xh_73.out.box
          go_wp2_with fail
          try rw [hw73]
          clear hw73
          clear c0 c1 c2 c3 c4 c5 d0 d1 d2 d3 d4 d5
          with_reducible refine (min_y MF.out MH.out DF.out DH.out _ Xf_73.out.row Xh_73.out.row).mono ?_
          rintro e v74 ⟨a74, n74, cap74, z74, p74, i74, c74, rfl, hb, hr, hm, hc, hx⟩
          obtain ⟨w74, hw⟩ : ∃ W, v74.alloc (.cells #[.slice a74 n74 cap74, .int .i64 p74, .int .i64 i74] 51) = W := ⟨_, rfl⟩
          have hz : Below w73.heap.size w73 w74 := by rw [← hw]; exact hb.trans ((below_box _).mono hb.size)
          have Xf_74 := Lib.hid (Xf_73.out.under hz)
          have Xg_74 := Lib.hid (Xg_73.out.under hz)
          have Xh_74 := Lib.hid (Xh_73.out.under hz)
          have Xx_74 := Lib.hid (Xx_73.out.under hz)
          have Xl_74 := Lib.hid (Xl_73.out.under hz)
          have Xu_74 := Lib.hid (Xu_73.out.under hz)
          have HB_74 := Lib.hid (HB_73.out.trans (hz.mono HB_73.out.size))
          have Xv_74 := Lib.hid (show BxI w74 v74.heap.size a74 n74 cap74 p74 i74 z74 by rw [← hw]; exact BxI.new hr)
          have HMv74 := Lib.hid hm
          have HCv74 := Lib.hid hc
          have SZ74 := Lib.hid (show v74.heap.size < w74.heap.size ∧ w73.heap.size ≤ v74.heap.size ∧ W.heap.size ≤ w73.heap.size from ⟨by rw [← hw]; simp, hb.size, HB_73.out.size⟩)
          have BZ74 := Lib.hid hz
          have hw74 := hw
          clear hb hr hm hc hx hz hw
          obtain ⟨c0, c1, c2, c3, c4, c5⟩ := Xu_74.out.box
          obtain ⟨d0, d1, d2, d3, d4, d5⟩ := Xv_74.out.box
          go_wp2_with fail
          try rw [hw74]
          clear hw74
          clear c0 c1 c2 c3 c4 c5 d0 d1 d2 d3 d4 d5
          with_reducible refine (max_y HMu73.out.mc HMv74.out.mc (DF.out.min DG.out) (DF.out.min DH.out) _ Xu_74.out.row Xv_74.out.row).mono ?_
          rintro e v75 ⟨a75, n75, cap75, z75, p75, i75, c75, rfl, hb, hr, hm, hc, hx⟩
          obtain ⟨w75, hw⟩ : ∃ W, v75.alloc (.cells #[.slice a75 n75 cap75, .int .i64 p75, .int .i64 i75] 51) = W := ⟨_, rfl⟩
          have hz : Below w74.heap.size w74 w75 := by rw [← hw]; exact hb.trans ((below_box _).mono hb.size)
          have Xf_75 := Lib.hid (Xf_74.out.under hz)
          have Xg_75 := Lib.hid (Xg_74.out.under hz)
          have Xh_75 := Lib.hid (Xh_74.out.under hz)
          have Xx_75 := Lib.hid (Xx_74.out.under hz)
          have Xl_75 := Lib.hid (Xl_74.out.under hz)
          have Xu_75 := Lib.hid (Xu_74.out.under hz)
          have Xv_75 := Lib.hid (Xv_74.out.under hz)
          have HB_75 := Lib.hid (HB_74.out.trans (hz.mono HB_74.out.size))
          have Xr_75 := Lib.hid (show BxI w75 v75.heap.size a75 n75 cap75 p75 i75 z75 by rw [← hw]; exact BxI.new hr)
          have HMr75 := Lib.hid hm
          have HCr75 := Lib.hid hc
          have SZ75 := Lib.hid (show v75.heap.size < w75.heap.size ∧ w74.heap.size ≤ v75.heap.size ∧ W.heap.size ≤ w74.heap.size from ⟨by rw [← hw]; simp, hb.size, HB_74.out.size⟩)
          have BZ75 := Lib.hid hz
          have hw75 := hw
          clear hb hr hm hc hx hz hw
          rcases HCx71.out with rfl | rfl | rfl
          · rcases HCl72.out with rfl | rfl | rfl
            · rcases HCu73.out with rfl | rfl | rfl
              · rcases HCv74.out with rfl | rfl | rfl
                · rcases HCr75.out with rfl | rfl | rfl
                  · obtain ⟨ql, hql, hfl⟩ := HMl72.out.ok
                    obtain ⟨qr, hqr, hfr⟩ := HMr75.out.ok
                    subst hql hqr
                    have HFl := Lib.hid hfl
                    have HFr := Lib.hid (show EForm _ _ _ (fun t => omin (eC zf pf jf t) (omax (eC zg pg jg t) (eC zh ph jh t))) by rw [show (fun t => omin (eC zf pf jf t) (omax (eC zg pg jg t) (eC zh ph jh t))) = fun t => omax (omin (eC zf pf jf t) (eC zg pg jg t)) (omin (eC zf pf jf t) (eC zh ph jh t)) from funext fun t => omin_omax _ _ _]; exact hfr)
                    clear hfl hfr
                    obtain ⟨c0, c1, c2, c3, c4, c5⟩ := Xl_75.out.box
                    obtain ⟨d0, d1, d2, d3, d4, d5⟩ := Xr_75.out.box
                    go_wp2_with fail
                    try rw [hw75]
                    clear hw75
                    clear c0 c1 c2 c3 c4 c5 d0 d1 d2 d3 d4 d5
                    with_reducible refine (same_at HFl.out HFr.out _ Xl_75.out.row Xr_75.out.row).mono ?_
                    rintro e w79 ⟨rfl, hb⟩
                    have Xf_79 := Lib.hid (Xf_75.out.under hb)
                    have Xg_79 := Lib.hid (Xg_75.out.under hb)
                    have Xh_79 := Lib.hid (Xh_75.out.under hb)
                    have Xx_79 := Lib.hid (Xx_75.out.under hb)
                    have Xl_79 := Lib.hid (Xl_75.out.under hb)
                    have Xu_79 := Lib.hid (Xu_75.out.under hb)
                    have Xv_79 := Lib.hid (Xv_75.out.under hb)
                    have Xr_79 := Lib.hid (Xr_75.out.under hb)
                    have HB_79 := Lib.hid (HB_75.out.trans (hb.mono HB_75.out.size))
                    have SY79 := Lib.hid hb.size
                    clear hb
                    go_wp2_with fail
                    refine (awake5 _).mono ?_
                    rintro e y ⟨rfl, hb⟩
                    have HBZ := Lib.hid (HB_79.out.trans (hb.mono HB_79.out.size))
                    clear hb
                    go_wp2_with fail
                    go_ret
                    exact ⟨rfl, HBZ.out⟩
                  · go_wp2_with fail
                    try rw [hw75]
                    clear hw75
                    refine (awake5 _).mono ?_
                    rintro e y ⟨rfl, hb⟩
                    have HBZ := Lib.hid (HB_75.out.trans (hb.mono HB_75.out.size))
                    clear hb
                    go_wp2_with fail
                    go_ret
                    exact ⟨rfl, HBZ.out⟩
                  · go_wp2_with fail
                    try rw [hw75]
                    clear hw75
                    refine (awake5 _).mono ?_
                    rintro e y ⟨rfl, hb⟩
                    have HBZ := Lib.hid (HB_75.out.trans (hb.mono HB_75.out.size))
                    clear hb
                    go_wp2_with fail
                    go_ret
                    exact ⟨rfl, HBZ.out⟩
                · go_wp2_with fail
                  try rw [hw75]
                  clear hw75
                  refine (awake5 _).mono ?_
                  rintro e y ⟨rfl, hb⟩
                  have HBZ := Lib.hid (HB_75.out.trans (hb.mono HB_75.out.size))
                  clear hb
                  go_wp2_with fail
                  go_ret
                  exact ⟨rfl, HBZ.out⟩
                · go_wp2_with fail
                  try rw [hw75]
                  clear hw75
                  refine (awake5 _).mono ?_
                  rintro e y ⟨rfl, hb⟩
                  have HBZ := Lib.hid (HB_75.out.trans (hb.mono HB_75.out.size))
                  clear hb
                  go_wp2_with fail
                  go_ret
                  exact ⟨rfl, HBZ.out⟩
              · go_wp2_with fail
                try rw [hw75]
                clear hw75
                refine (awake5 _).mono ?_
                rintro e y ⟨rfl, hb⟩
                have HBZ := Lib.hid (HB_75.out.trans (hb.mono HB_75.out.size))
                clear hb
                go_wp2_with fail
                go_ret
                exact ⟨rfl, HBZ.out⟩
              · go_wp2_with fail
                try rw [hw75]
                clear hw75
                refine (awake5 _).mono ?_
                rintro e y ⟨rfl, hb⟩
                have HBZ := Lib.hid (HB_75.out.trans (hb.mono HB_75.out.size))
                clear hb
                go_wp2_with fail
                go_ret
                exact ⟨rfl, HBZ.out⟩
            · go_wp2_with fail
              try rw [hw75]
              clear hw75
              refine (awake5 _).mono ?_
              rintro e y ⟨rfl, hb⟩
              have HBZ := Lib.hid (HB_75.out.trans (hb.mono HB_75.out.size))
              clear hb
              go_wp2_with fail
              go_ret
              exact ⟨rfl, HBZ.out⟩
            · go_wp2_with fail
              try rw [hw75]
              clear hw75
              refine (awake5 _).mono ?_
              rintro e y ⟨rfl, hb⟩
              have HBZ := Lib.hid (HB_75.out.trans (hb.mono HB_75.out.size))
              clear hb
              go_wp2_with fail
              go_ret
              exact ⟨rfl, HBZ.out⟩
          · go_wp2_with fail
            try rw [hw75]
            clear hw75
            refine (awake5 _).mono ?_
            rintro e y ⟨rfl, hb⟩
            have HBZ := Lib.hid (HB_75.out.trans (hb.mono HB_75.out.size))
            clear hb
            go_wp2_with fail
            go_ret
            exact ⟨rfl, HBZ.out⟩
          · go_wp2_with fail
            try rw [hw75]
            clear hw75
            refine (awake5 _).mono ?_
            rintro e y ⟨rfl, hb⟩
            have HBZ := Lib.hid (HB_75.out.trans (hb.mono HB_75.out.size))
            clear hb
            go_wp2_with fail
            go_ret
            exact ⟨rfl, HBZ.out⟩
    · obtain ⟨c0, c1, c2, c3, c4, c5⟩ := Xf_2.out.box
      obtain ⟨d0, d1, d2, d3, d4, d5⟩ := Xg_2.out.box
      go_wp2_with fail
      try rw [hw2]
      clear hw2
      clear c0 c1 c2 c3 c4 c5 d0 d1 d2 d3 d4 d5
      with_reducible refine ((max_day af nf capf zf pf jf OF.out.good ag ng capg zg pg jg OG.out.good DF.out DG.out _ Xf_2.out.row Xg_2.out.row).mono fun _ _ h => h.nothing hc1).mono ?_
      rintro e v3 ⟨a3, n3, cap3, p3, i3, c3, rfl, hb, hr, hn⟩
      obtain ⟨w3, hw⟩ : ∃ W, v3.alloc (.cells #[.slice a3 n3 cap3, .int .i64 p3, .int .i64 i3] 51) = W := ⟨_, rfl⟩
      have hz : Below w2.heap.size w2 w3 := by rw [← hw]; exact hb.trans ((below_box _).mono hb.size)
      have Xf_3 := Lib.hid (Xf_2.out.under hz)
      have Xg_3 := Lib.hid (Xg_2.out.under hz)
      have Xh_3 := Lib.hid (Xh_2.out.under hz)
      have Xa_3 := Lib.hid (Xa_2.out.under hz)
      have Xb_3 := Lib.hid (Xb_2.out.under hz)
      have HB_3 := Lib.hid (HB_2.out.trans (hz.mono HB_2.out.size))
      have Xc_3 := Lib.hid (show BxI w3 v3.heap.size a3 n3 cap3 p3 i3 [] by rw [← hw]; exact BxI.new hr)
      have HNc := Lib.hid hn
      have hw3 := hw
      clear hb hz hw hn hr
      obtain ⟨c0, c1, c2, c3, c4, c5⟩ := Xa_3.out.box
      obtain ⟨d0, d1, d2, d3, d4, d5⟩ := Xb_3.out.box
      go_wp2_with fail
      try rw [hw3]
      clear hw3
      clear c0 c1 c2 c3 c4 c5 d0 d1 d2 d3 d4 d5
      with_reducible refine (same_at HFa.out HFb.out _ Xa_3.out.row Xb_3.out.row).mono ?_
      rintro e w4 ⟨rfl, hb⟩
      have Xf_4 := Lib.hid (Xf_3.out.under hb)
      have Xg_4 := Lib.hid (Xg_3.out.under hb)
      have Xh_4 := Lib.hid (Xh_3.out.under hb)
      have Xa_4 := Lib.hid (Xa_3.out.under hb)
      have Xb_4 := Lib.hid (Xb_3.out.under hb)
      have Xc_4 := Lib.hid (Xc_3.out.under hb)
      have HB_4 := Lib.hid (HB_3.out.trans (hb.mono HB_3.out.size))
      have SY4 := Lib.hid hb.size
      clear hb
      have en1 := HNc.out.2.2.2.2.2
      subst en1
      go_wp2_with fail
      refine (awake5 _).mono ?_
      rintro e y ⟨rfl, hb⟩
      have HBZ := Lib.hid (HB_4.out.trans (hb.mono HB_4.out.size))
      clear hb
      go_wp2_with fail
      go_ret
      exact ⟨rfl, HBZ.out⟩
  · obtain ⟨c0, c1, c2, c3, c4, c5⟩ := Xf.out.box
    obtain ⟨d0, d1, d2, d3, d4, d5⟩ := Xg.out.box
    go_wp2_with fail
    try rw [hw0]
    clear hw0
    clear c0 c1 c2 c3 c4 c5 d0 d1 d2 d3 d4 d5
    with_reducible refine ((min_day af nf capf zf pf jf OF.out.good ag ng capg zg pg jg OG.out.good DF.out DG.out _ Xf.out.row Xg.out.row).mono fun _ _ h => h.nothing hc0).mono ?_
    rintro e v1 ⟨a1, n1, cap1, p1, i1, c1, rfl, hb, hr, hn⟩
    obtain ⟨w1, hw⟩ : ∃ W, v1.alloc (.cells #[.slice a1 n1 cap1, .int .i64 p1, .int .i64 i1] 51) = W := ⟨_, rfl⟩
    have hz : Below w0.heap.size w0 w1 := by rw [← hw]; exact hb.trans ((below_box _).mono hb.size)
    have Xf_1 := Lib.hid (Xf.out.under hz)
    have Xg_1 := Lib.hid (Xg.out.under hz)
    have Xh_1 := Lib.hid (Xh.out.under hz)
    have HB_1 := Lib.hid (HB5.out.trans (hz.mono HB5.out.size))
    have Xa_1 := Lib.hid (show BxI w1 v1.heap.size a1 n1 cap1 p1 i1 [] by rw [← hw]; exact BxI.new hr)
    have HNa := Lib.hid hn
    have hw1 := hw
    clear hb hz hw hn hr
    obtain ⟨c0, c1, c2, c3, c4, c5⟩ := Xg_1.out.box
    obtain ⟨d0, d1, d2, d3, d4, d5⟩ := Xf_1.out.box
    go_wp2_with fail
    try rw [hw1]
    clear hw1
    clear c0 c1 c2 c3 c4 c5 d0 d1 d2 d3 d4 d5
    with_reducible refine (((min_day ag ng capg zg pg jg OG.out.good af nf capf zf pf jf OF.out.good DG.out DF.out _ Xg_1.out.row Xf_1.out.row).mono fun _ _ h => h.to (show eMin zg pg jg zf pf jf = eMin zf pf jf zg pg jg from funext fun t => by unfold eMin; exact omin_comm _ _)).mono fun _ _ h => h.nothing hc0).mono ?_
    rintro e v2 ⟨a2, n2, cap2, p2, i2, c2, rfl, hb, hr, hn⟩
    obtain ⟨w2, hw⟩ : ∃ W, v2.alloc (.cells #[.slice a2 n2 cap2, .int .i64 p2, .int .i64 i2] 51) = W := ⟨_, rfl⟩
    have hz : Below w1.heap.size w1 w2 := by rw [← hw]; exact hb.trans ((below_box _).mono hb.size)
    have Xf_2 := Lib.hid (Xf_1.out.under hz)
    have Xg_2 := Lib.hid (Xg_1.out.under hz)
    have Xh_2 := Lib.hid (Xh_1.out.under hz)
    have Xa_2 := Lib.hid (Xa_1.out.under hz)
    have HB_2 := Lib.hid (HB_1.out.trans (hz.mono HB_1.out.size))
    have Xb_2 := Lib.hid (show BxI w2 v2.heap.size a2 n2 cap2 p2 i2 [] by rw [← hw]; exact BxI.new hr)
    have HNb := Lib.hid hn
    have hw2 := hw
    clear hb hz hw hn hr
    obtain ⟨c0, c1, c2, c3, c4, c5⟩ := Xf_2.out.box
    obtain ⟨d0, d1, d2, d3, d4, d5⟩ := Xg_2.out.box
    go_wp2_with fail
    try rw [hw2]
    clear hw2
    clear c0 c1 c2 c3 c4 c5 d0 d1 d2 d3 d4 d5
    with_reducible refine ((max_day af nf capf zf pf jf OF.out.good ag ng capg zg pg jg OG.out.good DF.out DG.out _ Xf_2.out.row Xg_2.out.row).mono fun _ _ h => h.mx).mono ?_
    rintro e v3 ⟨a3, n3, cap3, z3, p3, i3, c3, rfl, hb, hr, hm, hc, hx⟩
    obtain ⟨w3, hw⟩ : ∃ W, v3.alloc (.cells #[.slice a3 n3 cap3, .int .i64 p3, .int .i64 i3] 51) = W := ⟨_, rfl⟩
    have hz : Below w2.heap.size w2 w3 := by rw [← hw]; exact hb.trans ((below_box _).mono hb.size)
    have Xf_3 := Lib.hid (Xf_2.out.under hz)
    have Xg_3 := Lib.hid (Xg_2.out.under hz)
    have Xh_3 := Lib.hid (Xh_2.out.under hz)
    have Xa_3 := Lib.hid (Xa_2.out.under hz)
    have Xb_3 := Lib.hid (Xb_2.out.under hz)
    have HB_3 := Lib.hid (HB_2.out.trans (hz.mono HB_2.out.size))
    have Xc_3 := Lib.hid (show BxI w3 v3.heap.size a3 n3 cap3 p3 i3 z3 by rw [← hw]; exact BxI.new hr)
    have HMc3 := Lib.hid hm
    have HCc3 := Lib.hid hc
    have SZ3 := Lib.hid (show v3.heap.size < w3.heap.size ∧ w2.heap.size ≤ v3.heap.size ∧ W.heap.size ≤ w2.heap.size from ⟨by rw [← hw]; simp, hb.size, HB_2.out.size⟩)
    have BZ3 := Lib.hid hz
    have hw3 := hw
    clear hb hr hm hc hx hz hw
    have en1 := HNa.out.2.2.2.2.2
    have en2 := HNb.out.2.2.2.2.2
    subst en1 en2
    obtain ⟨c0, c1, c2, c3, c4, c5⟩ := Xa_3.out.box
    obtain ⟨d0, d1, d2, d3, d4, d5⟩ := Xb_3.out.box
    go_wp2_with fail
    try rw [hw3]
    clear hw3
    clear c0 c1 c2 c3 c4 c5 d0 d1 d2 d3 d4 d5
    with_reducible refine (same_no HNa.out HNb.out _ Xa_3.out.row Xb_3.out.row).mono ?_
    rintro e w4 ⟨rfl, hb⟩
    have Xf_4 := Lib.hid (Xf_3.out.under hb)
    have Xg_4 := Lib.hid (Xg_3.out.under hb)
    have Xh_4 := Lib.hid (Xh_3.out.under hb)
    have Xa_4 := Lib.hid (Xa_3.out.under hb)
    have Xb_4 := Lib.hid (Xb_3.out.under hb)
    have Xc_4 := Lib.hid (Xc_3.out.under hb)
    have HB_4 := Lib.hid (HB_3.out.trans (hb.mono HB_3.out.size))
    have SY4 := Lib.hid hb.size
    clear hb
    rcases HCc3.out with rfl | rfl
    · go_wp2_with fail
      refine (awake5 _).mono ?_
      rintro e y ⟨rfl, hb⟩
      have HBZ := Lib.hid (HB_4.out.trans (hb.mono HB_4.out.size))
      clear hb
      go_wp2_with fail
      go_ret
      exact ⟨rfl, HBZ.out⟩
    · go_wp2_with fail
      refine (awake5 _).mono ?_
      rintro e y ⟨rfl, hb⟩
      have HBZ := Lib.hid (HB_4.out.trans (hb.mono HB_4.out.size))
      clear hb
      go_wp2_with fail
      go_ret
      exact ⟨rfl, HBZ.out⟩

end Go.Proofs.Ytenfhjmaljleoaa
