/- The walk of RemainderBetween. By the verifier's side. -/
import Derived.Test.YtknimlpdpgpliaaLRemP
import Derived.Test.YtknimlpdpgpliaaLKeepC
namespace Go.Proofs.Ytknimlpdpgpliaa
open Go.RowKit
set_option linter.unusedSimpArgs false
set_option linter.unusedVariables false

theorem flat_raw : RawE [0, 0] ((1 : Nat)) 0 (fun _ => some 0) :=
  .inl ⟨⟨by decide, by omega, by omega, by decide, by omega, by omega, fun i hi => by
    have : i = 0 ∨ i = 1 := by have : i < 2 := hi; omega
    rcases this with rfl | rfl <;> decide⟩, fun t => by
    have hf : ¬ InfC (firsts (fun _ => (0 : Int)) 2) := by rw [infC_iff]; decide
    have h := flat_eC t
    rw [eC_fin hf] at h
    exact h.symm⟩
set_option maxRecDepth 100000 in
set_option maxHeartbeats 3200000 in
theorem rflat0 (w : World) : Calls Try.prog 27 #[.int .i64 0] w (GivesOk (fun _ => some 0) w) := by
  have hB1 : Below w.heap.size w (w.alloc (.cells #[.slice none 0 0, .int .i64 0, .int .i64 0] 26)) := (Below.refl _ _).alloc (Nat.le_refl _) _
  have hk := Cur3.new w (.slice none 0 0) (.int .i64 0) (.int .i64 0) 26
  have hr := rowZ_lit (w.alloc (.cells #[.slice none 0 0, .int .i64 0, .int .i64 0] 26)) [0, 0] 3 (by decide) (by decide)
  have e1 : (w.alloc (.cells #[.slice none 0 0, .int .i64 0, .int .i64 0] 26)).heap.size = w.heap.size + 1 := by simp
  rw [e1] at hr
  have hz : Below (w.alloc (.cells #[.slice none 0 0, .int .i64 0, .int .i64 0] 26)).heap.size (w.alloc (.cells #[.slice none 0 0, .int .i64 0, .int .i64 0] 26)) ((w.alloc (.cells #[.slice none 0 0, .int .i64 0, .int .i64 0] 26)).alloc (.cells #[.int .i64 0, .int .i64 0] 3)) := (Below.refl _ _).alloc (Nat.le_refl _) _
  obtain ⟨W1, hW⟩ : ∃ W, (w.alloc (.cells #[.slice none 0 0, .int .i64 0, .int .i64 0] 26)).alloc (.cells #[.int .i64 0, .int .i64 0] 3) = W := ⟨_, rfl⟩
  have hr : RowZ W1 (some ⟨w.heap.size + 1, 0, none⟩) 2 2 [0, 0] := by rw [← hW]; exact hr
  have HR := Lib.hid hr
  have HBW := Lib.hid (show Below w.heap.size w W1 by rw [← hW]; exact hB1.trans (hz.mono hB1.size))
  have HKW := Lib.hid (show Cur3 W1 w.heap.size (.slice none 0 0) (.int .i64 0) (.int .i64 0) by rw [← hW]; exact hk.below hz)
  have hE : ECan (fun _ => some 0) := ⟨firsts (fun _ => (0 : Int)) 2, 1, 0, flat_good, fun t => flat_eC t⟩
  have HE := Lib.hid hE
  have HRAW := Lib.hid flat_raw
  have hW1 := hW
  clear hr hz hB1 hk e1 hW hE
  go_enter Try.func27, Try.ntmps27
  go_wp2_with fail
  try rw [hW1]
  clear hW1
  refine ((rmade_ok (some ⟨w.heap.size + 1, 0, none⟩) 2 2 [0, 0] 1 0 HRAW.out W1 HR.out).mono fun _ _ h => h.ok HE.out).mono ?_
  rintro e v ⟨a, n, cap, zs, p, inc, rfl, hb, hr, hf, hx⟩
  have HP := Lib.hid (GivesE.post (E := fun _ => some 0) (b := w.heap.size) HBW.out (Nat.le_refl _) HKW.out.lt hb hr hx hf)
  obtain ⟨c0, c1, c2, f0, f1, f2⟩ := HKW.out.below hb
  have HZ := Lib.hid (GivesE.ok HE.out HP.out)
  clear hb hr hf hx
  go_wp2_with fail
  exact bodyPost_ret (v := .tuple #[curV a n cap p inc, .int .i64 0]) (by simp [results, Try.results27, go_sem, c0, c1, c2]) rfl HZ.out

theorem rnormal_at (a : Option Addr) (n cap : Nat) (zs : List Int) (p : Nat) (inc : Int) (g : Good zs p inc) (w : World) (h : RowZ w a n cap zs) :
    Calls Try.prog 28 #[curV a n cap p inc] w (GivesOk (eC zs p inc) w) := by
  refine (rnormal_ok a n cap zs p inc g w h).mono ?_
  rintro e v ⟨a', n', cap', zs', p', inc', rfl, hb, hr, hn, hx⟩
  exact ⟨a', n', cap', zs', p', inc', rfl, hb, hr, hn.eform g, hx⟩

section
variable {zs ys : List Int} {p q : Nat} {inc jnc : Int}
theorem dif_zero (g : Good zs p inc) (hz : ∀ t, eC ys q jnc t = some 0) : eDif zs p inc ys q jnc = eC zs p inc := funext fun t => by
  unfold eDif
  rw [hz]
  cases h : eC zs p inc t with
  | none => rfl
  | some x => have := (eC_bd g h).1; show some (max 0 (x - 0)) = some x; congr 1; omega
theorem eC_next (g : Good zs p inc) (t : Nat) : ole (eC zs p inc t) (eC zs p inc (t + 1)) := fun y hy => by
  cases h : eC zs p inc t with
  | none => rw [eC_up g h] at hy; cases hy
  | some x => exact ⟨x, rfl, eC_mono g h hy⟩
theorem rest_zero (g : Good zs p inc) (hz : ∀ t, eC ys q jnc t = some 0) : eRest zs p inc ys q jnc = eC zs p inc := by
  unfold eRest; rw [dif_zero g hz]; exact maxO_self (eC_next g)
theorem above_zero (g : Good zs p inc) (hz : ∀ t, eC ys q jnc t = some 0) : eAbove zs p inc ys q jnc = eC zs p inc := by
  unfold eAbove; rw [dif_zero g hz]; exact minO_self (fun t x h => (eC_bd g h).1) (eC_next g)
theorem day_rest (g : Good zs p inc) (k : Good ys q jnc) (hM : Mult p q 24) : Day (eRest zs p inc ys q jnc) := by
  obtain ⟨S, hS⟩ := (rest_sett g k hM).2
  by_cases h : ∃ t, eRest zs p inc ys q jnc t = none
  · obtain ⟨t0, h0⟩ := h
    refine ⟨max S t0, _, hS.mono (by omega), .inl fun t ht => ?_⟩
    have := stays (E := eRest zs p inc ys q jnc) (fun t h => maxO_up h) h0 (t - t0)
    rwa [show t0 + (t - t0) = t by omega] at this
  · refine ⟨S, _, hS, .inr fun t _ => ?_⟩
    cases e : eRest zs p inc ys q jnc t with
    | none => exact absurd ⟨t, e⟩ h
    | some x => rw [encF_some e]
theorem day_flat : Day (fun _ => some 0) := ⟨0, 0, fun t _ => by show (0 : Int) = 0 + 0; rfl, .inr fun t _ => rfl⟩
theorem sum_back (t : Nat) : ole (eC zs p inc t) (oadd (eRest zs p inc ys q jnc t) (eC ys q jnc t)) := fun y hy => by
  obtain ⟨r, c, hr, hc, rfl⟩ := both_some hy
  obtain ⟨d, hd, hle⟩ := maxO_at (eDif zs p inc ys q jnc) t r hr
  unfold eDif at hd
  rw [hc] at hd
  cases h : eC zs p inc t with
  | none => rw [h] at hd; cases hd
  | some x => rw [h] at hd; cases hd; exact ⟨x, rfl, by omega⟩
theorem enc_le {a b : Option Int} (h : ole a b) (ha : ∀ x, a = some x → x ≤ infV) : enc a ≤ enc b := by
  cases b with
  | none => cases a with
    | none => exact Int.le_refl _
    | some x => exact ha x rfl
  | some y => obtain ⟨x, rfl, hx⟩ := h y rfl; exact hx
theorem mult24' (hp : 24 % p = 0) (hq : 24 % q = 0) (h1 : 1 ≤ p) (h2 : 1 ≤ q) : Mult p q 24 := ⟨by omega, by have := Nat.div_add_mod 24 p; rw [hp, Nat.add_zero, Nat.mul_comm] at this; exact this, by have := Nat.div_add_mod 24 q; rw [hq, Nat.add_zero, Nat.mul_comm] at this; exact this⟩
end

set_option maxRecDepth 100000 in
set_option maxHeartbeats 6400000 in
theorem remainderBetween_walk (W : World) (a : Option Addr) (n cap : Nat) (hrow : RowAt W a n cap) (at0 : Int) (hat : In64 at0) :
    Calls Try.prog 5 #[.slice a n cap, .int .i64 at0] W fun e w' => e = .returned (.bool true) ∧ Below W.heap.size W w' := by
  have HR := Lib.hid hrow
  have HAT := Lib.hid hat
  clear hrow hat
  go_enter Try.func5, Try.ntmps5
  go_wp2_with fail
  refine (new_any a n cap _ HR.out).mono ?_
  rintro e u1 ⟨rfl, hb1, hz1, ra, rn, rc, hs1⟩
  have HB1 := Lib.hid hb1
  have HS1 := Lib.hid hs1
  have Z1 := Lib.hid hz1
  clear hb1 hz1 hs1
  go_wp2_with fail
  refine (curve_any 6 (by omega) (by omega) _ ra rn rc _ HS1.out).mono ?_
  rintro e u2 ⟨af, nf, capf, zf, pf, jf, rfl, hs2, he2, hr2, ok2, hx2⟩
  have OF := Lib.hid ok2
  have HS2 := Lib.hid hs2
  have R2 := Lib.hid hr2
  have X2 := Lib.hid (show ∀ x, af = some x → ¬ x.block = W.heap.size from fun x hx => by have := hx2 x hx; have := Z1.out; omega)
  have HB2 := Lib.hid (HB1.out.trans (he2.below (Nat.le_refl _) HB1.out.size))
  clear hs2 he2 hr2 ok2 hx2
  go_wp2_with fail
  refine (curve_any 6 (by omega) (by omega) _ ra rn rc _ HS2.out).mono ?_
  rintro e u3 ⟨ag, ng, capg, zg, pg, jg, rfl, hs3, he3, hr3, ok3, hx3⟩
  have OG := Lib.hid ok3
  have HS3 := Lib.hid hs3
  have R3 := Lib.hid hr3
  have R23 := Lib.hid (R2.out.apart he3 X2.out)
  have X3 := Lib.hid (show ∀ x, ag = some x → ¬ x.block = W.heap.size from fun x hx => by have := hx3 x hx; have := Z1.out; have := he3.size; have := HB2.out.size; have h9 : W.heap.size < u2.heap.size := lt_of_cell (src_cell HS2.out); omega)
  have HB3 := Lib.hid (HB2.out.trans (he3.below (Nat.le_refl _) HB2.out.size))
  clear hs3 he3 hr3 ok3 hx3
  obtain ⟨w0, hw⟩ : ∃ W, (u3.alloc (.cells #[.slice af nf capf, .int .i64 pf, .int .i64 jf] 26)).alloc (.cells #[.slice ag ng capg, .int .i64 pg, .int .i64 jg] 26) = W := ⟨_, rfl⟩
  have hz : Below u3.heap.size u3 w0 := by rw [← hw]; exact (below_box _).alloc (by simp) _
  have Xf := Lib.hid (show Bx w0 u3.heap.size af nf capf pf jf zf by rw [← hw]; exact (Bx.new R23.out).under (below_box _))
  have Xg := Lib.hid (show Bx w0 (u3.heap.size + 1) ag ng capg pg jg zg by
    rw [← hw]
    have := Bx.new (p := pg) (inc := jg) (R3.out.alloc (.cells #[.slice af nf capf, .int .i64 pf, .int .i64 jf] 26))
    rwa [show (u3.alloc (.cells #[.slice af nf capf, .int .i64 pf, .int .i64 jf] 26)).heap.size = u3.heap.size + 1 by simp] at this)
  have HB4 := Lib.hid (HB3.out.trans (hz.mono HB3.out.size))
  have SR0 := Lib.hid (src_under HS3.out hz)
  have SW := Lib.hid (show W.heap.size < u3.heap.size ∧ u3.heap.size ≤ w0.heap.size from ⟨lt_of_cell (src_cell HS3.out), hz.size⟩)
  have hw0 := hw
  clear hw hz
  obtain ⟨c0, c1, c2, c3, c4, c5⟩ := Xf.out.box
  obtain ⟨d0, d1, d2, d3, d4, d5⟩ := Xg.out.box
  go_wp2_with fail
  try rw [hw0]
  clear hw0
  clear c0 c1 c2 c3 c4 c5 d0 d1 d2 d3 d4 d5
  with_reducible refine (rflat0 _).mono ?_
  rintro e v1 ⟨a1, n1, cap1, z1, p1, i1, rfl, hb, hr, hf, hx⟩
  obtain ⟨w1, hw⟩ : ∃ W, v1.alloc (.cells #[.slice a1 n1 cap1, .int .i64 p1, .int .i64 i1] 26) = W := ⟨_, rfl⟩
  have hz : Below w0.heap.size w0 w1 := by rw [← hw]; exact hb.trans ((below_box _).mono hb.size)
  have Xf_1 := Lib.hid (Xf.out.under hz)
  have Xg_1 := Lib.hid (Xg.out.under hz)
  have HB_1 := Lib.hid (HB4.out.trans (hz.mono HB4.out.size))
  have Xz_1 := Lib.hid (show Bx w1 v1.heap.size a1 n1 cap1 p1 i1 z1 by rw [← hw]; exact Bx.new hr)
  have HFz := Lib.hid hf
  have hw1 := hw
  clear hb hr hf hx hz hw
  obtain ⟨c0, c1, c2, c3, c4, c5⟩ := Xf_1.out.box
  go_wp2_with fail
  try rw [hw1]
  clear hw1
  clear c0 c1 c2 c3 c4 c5
  with_reducible refine (rnormal_at af nf capf zf pf jf OF.out.good _ Xf_1.out.row).mono ?_
  rintro e v2 ⟨a2, n2, cap2, z2, p2, i2, rfl, hb, hr, hf, hx⟩
  obtain ⟨w2, hw⟩ : ∃ W, v2.alloc (.cells #[.slice a2 n2 cap2, .int .i64 p2, .int .i64 i2] 26) = W := ⟨_, rfl⟩
  have hz : Below w1.heap.size w1 w2 := by rw [← hw]; exact hb.trans ((below_box _).mono hb.size)
  have Xf_2 := Lib.hid (Xf_1.out.under hz)
  have Xg_2 := Lib.hid (Xg_1.out.under hz)
  have Xz_2 := Lib.hid (Xz_1.out.under hz)
  have HB_2 := Lib.hid (HB_1.out.trans (hz.mono HB_1.out.size))
  have Xn_2 := Lib.hid (show Bx w2 v2.heap.size a2 n2 cap2 p2 i2 z2 by rw [← hw]; exact Bx.new hr)
  have HFn := Lib.hid hf
  have hw2 := hw
  clear hb hr hf hx hz hw
  have DF := Lib.hid (show Day (eC zf pf jf) ∧ Day (eC zg pg jg) from ⟨(drawn_nice OF.out (by omega)).day, (drawn_nice OG.out (by omega)).day⟩)
  have DZ := Lib.hid (show Day (eC z1 p1 i1) from day_flat.of HFz.out.val)
  obtain ⟨c0, c1, c2, c3, c4, c5⟩ := Xf_2.out.box
  obtain ⟨d0, d1, d2, d3, d4, d5⟩ := Xz_2.out.box
  go_wp2_with fail
  try rw [hw2]
  clear hw2
  clear c0 c1 c2 c3 c4 c5 d0 d1 d2 d3 d4 d5
  with_reducible refine ((rest_day af nf capf zf pf jf OF.out.good a1 n1 cap1 z1 p1 i1 HFz.out.good DF.out.1 DZ.out _ Xf_2.out.row Xz_2.out.row).mono fun _ _ h => (h.to (rest_zero OF.out.good HFz.out.val)).ok (self_can OF.out.good)).mono ?_
  rintro e v3 ⟨a3, n3, cap3, z3, p3, i3, rfl, hb, hr, hf, hx⟩
  obtain ⟨w3, hw⟩ : ∃ W, v3.alloc (.cells #[.slice a3 n3 cap3, .int .i64 p3, .int .i64 i3] 26) = W := ⟨_, rfl⟩
  have hz : Below w2.heap.size w2 w3 := by rw [← hw]; exact hb.trans ((below_box _).mono hb.size)
  have Xf_3 := Lib.hid (Xf_2.out.under hz)
  have Xg_3 := Lib.hid (Xg_2.out.under hz)
  have Xz_3 := Lib.hid (Xz_2.out.under hz)
  have Xn_3 := Lib.hid (Xn_2.out.under hz)
  have HB_3 := Lib.hid (HB_2.out.trans (hz.mono HB_2.out.size))
  have Xx_3 := Lib.hid (show Bx w3 v3.heap.size a3 n3 cap3 p3 i3 z3 by rw [← hw]; exact Bx.new hr)
  have HFx := Lib.hid hf
  have hw3 := hw
  clear hb hr hf hx hz hw
  obtain ⟨c0, c1, c2, c3, c4, c5⟩ := Xf_3.out.box
  obtain ⟨d0, d1, d2, d3, d4, d5⟩ := Xz_3.out.box
  go_wp2_with fail
  try rw [hw3]
  clear hw3
  clear c0 c1 c2 c3 c4 c5 d0 d1 d2 d3 d4 d5
  with_reducible refine ((above_day af nf capf zf pf jf OF.out.good a1 n1 cap1 z1 p1 i1 HFz.out.good DF.out.1 DZ.out _ Xf_3.out.row Xz_3.out.row).mono fun _ _ h => (h.to (above_zero OF.out.good HFz.out.val)).ok (self_can OF.out.good)).mono ?_
  rintro e v4 ⟨a4, n4, cap4, z4, p4, i4, rfl, hb, hr, hf, hx⟩
  obtain ⟨w4, hw⟩ : ∃ W, v4.alloc (.cells #[.slice a4 n4 cap4, .int .i64 p4, .int .i64 i4] 26) = W := ⟨_, rfl⟩
  have hz : Below w3.heap.size w3 w4 := by rw [← hw]; exact hb.trans ((below_box _).mono hb.size)
  have Xf_4 := Lib.hid (Xf_3.out.under hz)
  have Xg_4 := Lib.hid (Xg_3.out.under hz)
  have Xz_4 := Lib.hid (Xz_3.out.under hz)
  have Xn_4 := Lib.hid (Xn_3.out.under hz)
  have Xx_4 := Lib.hid (Xx_3.out.under hz)
  have HB_4 := Lib.hid (HB_3.out.trans (hz.mono HB_3.out.size))
  have Xy_4 := Lib.hid (show Bx w4 v4.heap.size a4 n4 cap4 p4 i4 z4 by rw [← hw]; exact Bx.new hr)
  have HFy := Lib.hid hf
  have hw4 := hw
  clear hb hr hf hx hz hw
  obtain ⟨c0, c1, c2, c3, c4, c5⟩ := Xx_4.out.box
  obtain ⟨d0, d1, d2, d3, d4, d5⟩ := Xn_4.out.box
  go_wp2_with fail
  try rw [hw4]
  clear hw4
  clear c0 c1 c2 c3 c4 c5 d0 d1 d2 d3 d4 d5
  with_reducible refine (same_at HFx.out HFn.out _ Xx_4.out.row Xn_4.out.row).mono ?_
  rintro e w5 ⟨rfl, hb⟩
  have Xf_5 := Lib.hid (Xf_4.out.under hb)
  have Xg_5 := Lib.hid (Xg_4.out.under hb)
  have Xz_5 := Lib.hid (Xz_4.out.under hb)
  have Xn_5 := Lib.hid (Xn_4.out.under hb)
  have Xx_5 := Lib.hid (Xx_4.out.under hb)
  have Xy_5 := Lib.hid (Xy_4.out.under hb)
  have HB_5 := Lib.hid (HB_4.out.trans (hb.mono HB_4.out.size))
  clear hb
  obtain ⟨c0, c1, c2, c3, c4, c5⟩ := Xy_5.out.box
  obtain ⟨d0, d1, d2, d3, d4, d5⟩ := Xn_5.out.box
  go_wp2_with fail
  clear c0 c1 c2 c3 c4 c5 d0 d1 d2 d3 d4 d5
  with_reducible refine (same_at HFy.out HFn.out _ Xy_5.out.row Xn_5.out.row).mono ?_
  rintro e w6 ⟨rfl, hb⟩
  have Xf_6 := Lib.hid (Xf_5.out.under hb)
  have Xg_6 := Lib.hid (Xg_5.out.under hb)
  have Xz_6 := Lib.hid (Xz_5.out.under hb)
  have Xn_6 := Lib.hid (Xn_5.out.under hb)
  have Xx_6 := Lib.hid (Xx_5.out.under hb)
  have Xy_6 := Lib.hid (Xy_5.out.under hb)
  have HB_6 := Lib.hid (HB_5.out.trans (hb.mono HB_5.out.size))
  clear hb
  obtain ⟨c0, c1, c2, c3, c4, c5⟩ := Xf_6.out.box
  obtain ⟨d0, d1, d2, d3, d4, d5⟩ := Xg_6.out.box
  go_wp2_with fail
  clear c0 c1 c2 c3 c4 c5 d0 d1 d2 d3 d4 d5
  with_reducible refine ((rest_day af nf capf zf pf jf OF.out.good ag ng capg zg pg jg OG.out.good DF.out.1 DF.out.2 _ Xf_6.out.row Xg_6.out.row).mono fun _ _ h => h.mx).mono ?_
  rintro e v7 ⟨a7, n7, cap7, z7, p7, i7, c7, rfl, hb, hr, hm, hc, hx⟩
  obtain ⟨w7, hw⟩ : ∃ W, v7.alloc (.cells #[.slice a7 n7 cap7, .int .i64 p7, .int .i64 i7] 26) = W := ⟨_, rfl⟩
  have hz : Below w6.heap.size w6 w7 := by rw [← hw]; exact hb.trans ((below_box _).mono hb.size)
  have Xf_7 := Lib.hid (Xf_6.out.under hz)
  have Xg_7 := Lib.hid (Xg_6.out.under hz)
  have HB_7 := Lib.hid (HB_6.out.trans (hz.mono HB_6.out.size))
  have Xr_7 := Lib.hid (show BxI w7 v7.heap.size a7 n7 cap7 p7 i7 z7 by rw [← hw]; exact BxI.new hr)
  have HM7 := Lib.hid hm
  have HC7 := Lib.hid hc
  have hw7 := hw
  clear hb hr hm hc hx hz hw
  obtain ⟨c0, c1, c2, c3, c4, c5⟩ := Xf_7.out.box
  obtain ⟨d0, d1, d2, d3, d4, d5⟩ := Xg_7.out.box
  go_wp2_with fail
  try rw [hw7]
  clear hw7
  clear c0 c1 c2 c3 c4 c5 d0 d1 d2 d3 d4 d5
  with_reducible refine ((above_day af nf capf zf pf jf OF.out.good ag ng capg zg pg jg OG.out.good DF.out.1 DF.out.2 _ Xf_7.out.row Xg_7.out.row).mono fun _ _ h => h.mx).mono ?_
  rintro e v8 ⟨a8, n8, cap8, z8, p8, i8, c8, rfl, hb, hr, hm, hc, hx⟩
  obtain ⟨w8, hw⟩ : ∃ W, v8.alloc (.cells #[.slice a8 n8 cap8, .int .i64 p8, .int .i64 i8] 26) = W := ⟨_, rfl⟩
  have hz : Below w7.heap.size w7 w8 := by rw [← hw]; exact hb.trans ((below_box _).mono hb.size)
  have Xf_8 := Lib.hid (Xf_7.out.under hz)
  have Xg_8 := Lib.hid (Xg_7.out.under hz)
  have Xr_8 := Lib.hid (Xr_7.out.under hz)
  have HB_8 := Lib.hid (HB_7.out.trans (hz.mono HB_7.out.size))
  have Xa_8 := Lib.hid (show BxI w8 v8.heap.size a8 n8 cap8 p8 i8 z8 by rw [← hw]; exact BxI.new hr)
  have HM8 := Lib.hid hm
  have HC8 := Lib.hid hc
  have hw8 := hw
  clear hb hr hm hc hx hz hw
  rcases HC7.out with rfl | rfl
  · obtain ⟨qr, rfl, hfr⟩ := HM7.out.ok
    have HFr := Lib.hid hfr
    have DR := Lib.hid (show Day (eC z7 qr i7) from (day_rest OF.out.good OG.out.good (mult24' OF.out.div OG.out.div OF.out.good.p1 OG.out.good.p1)).of hfr.val)
    clear hfr
    rcases HC8.out with rfl | rfl
    · obtain ⟨qa, rfl, hfa⟩ := HM8.out.ok
      have HFa := Lib.hid hfa
      clear hfa
      obtain ⟨c0, c1, c2, c3, c4, c5⟩ := Xa_8.out.box
      obtain ⟨d0, d1, d2, d3, d4, d5⟩ := Xr_8.out.box
      go_wp2_with fail
      try rw [hw8]
      clear hw8
      clear c0 c1 c2 c3 c4 c5 d0 d1 d2 d3 d4 d5
      with_reducible refine (most_at HFa.out HFr.out (fun t => ole_trans (above_le (Nat.le_refl t)) (maxO_at _ t)) _ Xa_8.out.row Xr_8.out.row).mono ?_
      rintro e w9 ⟨rfl, hb⟩
      have Xf_9 := Lib.hid (Xf_8.out.under hb)
      have Xg_9 := Lib.hid (Xg_8.out.under hb)
      have Xr_9 := Lib.hid (Xr_8.out.under hb)
      have Xa_9 := Lib.hid (Xa_8.out.under hb)
      have HB_9 := Lib.hid (HB_8.out.trans (hb.mono HB_8.out.size))
      clear hb
      obtain ⟨c0, c1, c2, c3, c4, c5⟩ := Xr_9.out.box
      obtain ⟨d0, d1, d2, d3, d4, d5⟩ := Xg_9.out.box
      go_wp2_with fail
      clear c0 c1 c2 c3 c4 c5 d0 d1 d2 d3 d4 d5
      with_reducible refine ((rsum_day a7 n7 cap7 z7 qr i7 HFr.out.good ag ng capg zg pg jg OG.out.good DR.out DF.out.2 _ Xr_9.out.row Xg_9.out.row).mono fun _ _ h => h.mx).mono ?_
      rintro e v10 ⟨a10, n10, cap10, z10, p10, i10, c10, rfl, hb, hr, hm, hc, hx⟩
      obtain ⟨w10, hw⟩ : ∃ W, v10.alloc (.cells #[.slice a10 n10 cap10, .int .i64 p10, .int .i64 i10] 26) = W := ⟨_, rfl⟩
      have hz : Below w9.heap.size w9 w10 := by rw [← hw]; exact hb.trans ((below_box _).mono hb.size)
      have Xf_10 := Lib.hid (Xf_9.out.under hz)
      have Xg_10 := Lib.hid (Xg_9.out.under hz)
      have Xr_10 := Lib.hid (Xr_9.out.under hz)
      have Xa_10 := Lib.hid (Xa_9.out.under hz)
      have HB_10 := Lib.hid (HB_9.out.trans (hz.mono HB_9.out.size))
      have Xb_10 := Lib.hid (show BxI w10 v10.heap.size a10 n10 cap10 p10 i10 z10 by rw [← hw]; exact BxI.new hr)
      have HM10 := Lib.hid hm
      have HC10 := Lib.hid hc
      have hw10 := hw
      clear hb hr hm hc hx hz hw
      obtain ⟨tz, htz⟩ : ∃ m, at0 % 2000 = m := ⟨_, rfl⟩
      have htb : 0 ≤ tz ∧ tz < 2000 := by rw [← htz]; exact ⟨Int.emod_nonneg _ (by omega), Int.emod_lt_of_pos _ (by omega)⟩
      obtain ⟨htb0, htb1⟩ := htb
      obtain ⟨T, rfl⟩ := Int.eq_ofNat_of_zero_le htb0
      have hT : T < 2000 := by omega
      have HTZ := Lib.hid htz
      clear htz htb0 htb1
      go_wp2_with fail
      try rw [hw10]
      clear hw10
      refine (mod_any at0 2000 HAT.out (by omega) (by omega) _).mono ?_
      rintro e wm ⟨rfl, rfl⟩
      rw [HTZ.out]
      rcases HC10.out with rfl | rfl
      · obtain ⟨qb, rfl, hfb⟩ := HM10.out.ok
        have HFb := Lib.hid hfb
        have XB := Lib.hid (Xb_10.out.nat)
        clear hfb
        obtain ⟨vb, hvb⟩ : ∃ v, atC z10 qb i10 T = v := ⟨_, rfl⟩
        obtain ⟨vf, hvf⟩ : ∃ v, atC zf pf jf T = v := ⟨_, rfl⟩
        have hle : vf ≤ vb := by
          rw [← hvb, ← hvf, ← enc_eC zf pf jf T, ← enc_eC z10 qb i10 T]
          refine enc_le ?_ (fun x h => by have := eC_bd OF.out.good h; unfold infV; omega)
          rw [HFb.out.val T]
          have h := sum_back (zs := zf) (p := pf) (inc := jf) (ys := zg) (q := pg) (jnc := jg) T
          unfold eSum
          rw [HFr.out.val T]
          exact h
        have HVB := Lib.hid hvb
        have HVF := Lib.hid hvf
        have KS := Lib.hid (show ∀ u, Below w10.heap.size w10 u → ((u.cell? ⟨v10.heap.size, 0, none⟩ = some (.slice a10 n10 cap10) ∧ u.cell? ⟨v10.heap.size, 1, none⟩ = some (.int .i64 qb) ∧ u.cell? ⟨v10.heap.size, 2, none⟩ = some (.int .i64 i10)) ∧ (u.cell? ⟨u3.heap.size, 0, none⟩ = some (.slice af nf capf) ∧ u.cell? ⟨u3.heap.size, 1, none⟩ = some (.int .i64 pf) ∧ u.cell? ⟨u3.heap.size, 2, none⟩ = some (.int .i64 jf))) from fun u hu => by
          have x := XB.out.box.below hu
          have y := Xf_10.out.box.below hu
          exact ⟨⟨x.c0, x.c1, x.c2⟩, y.c0, y.c1, y.c2⟩)
        have S0 := Lib.hid ((Below.refl w10.heap.size w10).drew)
        clear hvb hvf
        go_upto_region 17 with fail
        refine wp_region_keeps (fun u => ((u.cell? ⟨v10.heap.size, 0, none⟩ = some (.slice a10 n10 cap10) ∧ u.cell? ⟨v10.heap.size, 1, none⟩ = some (.int .i64 qb) ∧ u.cell? ⟨v10.heap.size, 2, none⟩ = some (.int .i64 i10)) ∧ (u.cell? ⟨u3.heap.size, 0, none⟩ = some (.slice af nf capf) ∧ u.cell? ⟨u3.heap.size, 1, none⟩ = some (.int .i64 pf) ∧ u.cell? ⟨u3.heap.size, 2, none⟩ = some (.int .i64 jf)))) 14 1 (by kernel_rfl) (by kernel_rfl) (KS.out _ S0.out) (fun hHeld0 => ?_)
        refine wpAnyK_take (i := 0) (v := ?_) rfl (by kernel_rfl) (fun _ _ _ h => h) (Or.inl ⟨by rfl, ?_⟩) (by assumption) ?_
        rotate_left
        · (intro w hSw; (try dsimp only at hSw); go_simp; try with_reducible rfl)
        try simp only [Act.put, List.getElem_toArray, List.getElem_cons_zero, List.getElem_cons_succ, List.setIfInBounds_toArray, List.set_cons_zero, List.set_cons_succ]
        refine wpAnyK_take (i := 1) (v := ?_) rfl (by kernel_rfl) (fun _ _ _ h => h) (Or.inl ⟨by rfl, ?_⟩) (by assumption) ?_
        rotate_left
        · (intro w hSw; (try dsimp only at hSw); go_simp; try with_reducible rfl)
        try simp only [Act.put, List.getElem_toArray, List.getElem_cons_zero, List.getElem_cons_succ, List.setIfInBounds_toArray, List.set_cons_zero, List.set_cons_succ]
        refine wpAnyK_take (i := 2) (v := ?_) rfl (by kernel_rfl) (fun _ _ _ h => h) (Or.inl ⟨by rfl, ?_⟩) (by assumption) ?_
        rotate_left
        · (intro w hSw; (try dsimp only at hSw); go_simp; try with_reducible rfl)
        try simp only [Act.put, List.getElem_toArray, List.getElem_cons_zero, List.getElem_cons_succ, List.setIfInBounds_toArray, List.set_cons_zero, List.set_cons_succ]
        refine wpAnyK_take (i := 3) (v := ?_) rfl (by kernel_rfl) (fun _ _ _ h => h) (Or.inl ⟨by rfl, ?_⟩) (by assumption) ?_
        rotate_left
        · (intro w hSw; (try dsimp only at hSw); go_simp; try with_reducible rfl)
        try simp only [Act.put, List.getElem_toArray, List.getElem_cons_zero, List.getElem_cons_succ, List.setIfInBounds_toArray, List.set_cons_zero, List.set_cons_succ]
        refine wpAnyK_take (i := 4) (v := ?_) rfl (by kernel_rfl) (fun _ _ _ h => h) (Or.inl ⟨by rfl, ?_⟩) (by assumption) ?_
        rotate_left
        · (intro w hSw; (try dsimp only at hSw); go_simp; try with_reducible rfl)
        try simp only [Act.put, List.getElem_toArray, List.getElem_cons_zero, List.getElem_cons_succ, List.setIfInBounds_toArray, List.set_cons_zero, List.set_cons_succ]
        refine wpAnyK_take (i := 6) (v := ?_) rfl (by kernel_rfl) (fun _ _ _ h => h) (Or.inl ⟨by rfl, ?_⟩) (by assumption) ?_
        rotate_left
        · (intro w hSw; (try dsimp only at hSw); go_simp; try with_reducible rfl)
        try simp only [Act.put, List.getElem_toArray, List.getElem_cons_zero, List.getElem_cons_succ, List.setIfInBounds_toArray, List.set_cons_zero, List.set_cons_succ]
        refine wpAnyK_take (i := 7) (v := ?_) rfl (by kernel_rfl) (fun _ _ _ h => h) (Or.inl ⟨by rfl, ?_⟩) (by assumption) ?_
        rotate_left
        · (intro w hSw; (try dsimp only at hSw); go_simp; try with_reducible rfl)
        try simp only [Act.put, List.getElem_toArray, List.getElem_cons_zero, List.getElem_cons_succ, List.setIfInBounds_toArray, List.set_cons_zero, List.set_cons_succ]
        refine wpAnyK_step (i := 5) rfl (by kernel_rfl) (fun K hK => ?_)
        go_simp
        with_reducible refine (rat_at a10 n10 cap10 z10 qb i10 HFb.out.good _ T rfl (by omega) vb HVB.out _ (XB.out.row.under S0.out)).mono ?_
        rintro e s1 ⟨rfl, hb⟩
        have S1 := Lib.hid (S0.out.trans (hb.mono S0.out.size))
        clear hb
        refine hK.out _ _ (KS.out _ S1.out) (fun hHeld1 => ?_)
        clear hK K hHeld0
        try simp only [Act.put, List.getElem_toArray, List.getElem_cons_zero, List.getElem_cons_succ, List.setIfInBounds_toArray, List.set_cons_zero, List.set_cons_succ]
        refine wpAnyK_step (i := 8) rfl (by kernel_rfl) (fun K hK => ?_)
        go_simp
        with_reducible refine (rat_at af nf capf zf pf jf OF.out.good _ T rfl (by omega) vf HVF.out _ (Xf_10.out.row.under S1.out)).mono ?_
        rintro e s2 ⟨rfl, hb⟩
        have S2 := Lib.hid (S1.out.trans (hb.mono S1.out.size))
        clear hb
        refine hK.out _ _ (KS.out _ S2.out) (fun hHeld2 => ?_)
        clear hK K hHeld1
        try simp only [Act.put, List.getElem_toArray, List.getElem_cons_zero, List.getElem_cons_succ, List.setIfInBounds_toArray, List.set_cons_zero, List.set_cons_succ]
        refine wpAnyK_take (i := 9) (v := ?_) rfl (by kernel_rfl) (fun _ _ _ h => h) (Or.inl ⟨by rfl, ?_⟩) (by assumption) ?_
        rotate_left
        · (intro w hSw; (try dsimp only at hSw); go_simp; try with_reducible rfl)
        try simp only [Act.put, List.getElem_toArray, List.getElem_cons_zero, List.getElem_cons_succ, List.setIfInBounds_toArray, List.set_cons_zero, List.set_cons_succ]
        refine wpAnyK_take (i := 10) (v := ?_) rfl (by kernel_rfl) (fun _ _ _ h => h) (Or.inl ⟨by rfl, ?_⟩) (by assumption) ?_
        rotate_left
        · (intro w hSw; (try dsimp only at hSw); go_simp; try with_reducible rfl)
        try simp only [Act.put, List.getElem_toArray, List.getElem_cons_zero, List.getElem_cons_succ, List.setIfInBounds_toArray, List.set_cons_zero, List.set_cons_succ]
        refine wpAnyK_take (i := 11) (v := ?_) rfl (by kernel_rfl) (fun _ _ _ h => h) (Or.inl ⟨by rfl, ?_⟩) (by assumption) ?_
        rotate_left
        · (intro w hSw; (try dsimp only at hSw); go_simp; try with_reducible rfl)
        try simp only [Act.put, List.getElem_toArray, List.getElem_cons_zero, List.getElem_cons_succ, List.setIfInBounds_toArray, List.set_cons_zero, List.set_cons_succ]
        refine wpAnyK_step (i := 12) rfl (by kernel_rfl) (fun K hK => ?_)
        go_simp
        with_reducible refine (awake6 _).mono ?_
        rintro e s3 ⟨rfl, hb⟩
        have S3 := Lib.hid (S2.out.trans (hb.mono S2.out.size))
        clear hb
        refine hK.out _ _ (KS.out _ S3.out) (fun hHeld3 => ?_)
        clear hK K hHeld2
        try simp only [Act.put, List.getElem_toArray, List.getElem_cons_zero, List.getElem_cons_succ, List.setIfInBounds_toArray, List.set_cons_zero, List.set_cons_succ]
        refine wpAnyK_take (i := 13) (v := ?_) rfl (by kernel_rfl) (fun _ _ _ h => h) (Or.inl ⟨by rfl, ?_⟩) (by assumption) ?_
        rotate_left
        · (intro w hSw; (try dsimp only at hSw); go_simp; try with_reducible rfl)
        try simp only [Act.put, List.getElem_toArray, List.getElem_cons_zero, List.getElem_cons_succ, List.setIfInBounds_toArray, List.set_cons_zero, List.set_cons_succ]
        refine wpAnyK_done (by kernel_rfl) ?_
        simp only [List.drop_succ_cons, List.drop_zero]
        clear hHeld3
        have HZ := Lib.hid (HB_10.out.trans (S3.out.mono HB_10.out.size))
        go_wp2_with fail
        go_ret
        exact ⟨rfl, HZ.out⟩
      · have KS := Lib.hid (show ∀ u, Below w10.heap.size w10 u → (u.cell? ⟨u3.heap.size, 0, none⟩ = some (.slice af nf capf) ∧ u.cell? ⟨u3.heap.size, 1, none⟩ = some (.int .i64 pf)) from fun u hu => by
          have y := Xf_10.out.box.below hu
          exact ⟨y.c0, y.c1⟩)
        have S0 := Lib.hid ((Below.refl w10.heap.size w10).drew)
        go_upto_region 17 with fail
        refine wp_region_keeps (fun u => (u.cell? ⟨u3.heap.size, 0, none⟩ = some (.slice af nf capf) ∧ u.cell? ⟨u3.heap.size, 1, none⟩ = some (.int .i64 pf))) 14 1 (by kernel_rfl) (by kernel_rfl) (KS.out _ S0.out) (fun hHeld0 => ?_)
        refine wpAnyK_take (i := 0) (v := ?_) rfl (by kernel_rfl) (fun _ _ _ h => h) (Or.inl ⟨by rfl, ?_⟩) (by assumption) ?_
        rotate_left
        · (intro w hSw; (try dsimp only at hSw); go_simp; try with_reducible rfl)
        try simp only [Act.put, List.getElem_toArray, List.getElem_cons_zero, List.getElem_cons_succ, List.setIfInBounds_toArray, List.set_cons_zero, List.set_cons_succ]
        refine wpAnyK_take (i := 1) (v := ?_) rfl (by kernel_rfl) (fun _ _ _ h => h) (Or.inl ⟨by rfl, ?_⟩) (by assumption) ?_
        rotate_left
        · (intro w hSw; (try dsimp only at hSw); go_simp; try with_reducible rfl)
        try simp only [Act.put, List.getElem_toArray, List.getElem_cons_zero, List.getElem_cons_succ, List.setIfInBounds_toArray, List.set_cons_zero, List.set_cons_succ]
        refine wpAnyK_take (i := 2) (v := ?_) rfl (by kernel_rfl) (fun _ _ _ h => h) (Or.inl ⟨by rfl, ?_⟩) (by assumption) ?_
        rotate_left
        · (intro w hSw; (try dsimp only at hSw); go_simp; try with_reducible rfl)
        try simp only [Act.put, List.getElem_toArray, List.getElem_cons_zero, List.getElem_cons_succ, List.setIfInBounds_toArray, List.set_cons_zero, List.set_cons_succ]
        refine wpAnyK_take (i := 3) (v := undef) rfl (by kernel_rfl) (fun _ _ _ h => h) (Or.inr ⟨by rfl, rfl⟩) (by assumption) ?_
        try simp only [Act.put, List.getElem_toArray, List.getElem_cons_zero, List.getElem_cons_succ, List.setIfInBounds_toArray, List.set_cons_zero, List.set_cons_succ]
        refine wpAnyK_take (i := 4) (v := undef) rfl (by kernel_rfl) (fun _ _ _ h => h) (Or.inr ⟨by rfl, rfl⟩) (by assumption) ?_
        try simp only [Act.put, List.getElem_toArray, List.getElem_cons_zero, List.getElem_cons_succ, List.setIfInBounds_toArray, List.set_cons_zero, List.set_cons_succ]
        refine wpAnyK_take (i := 5) (v := undef) rfl (by kernel_rfl) (fun _ _ _ h => h) (Or.inr ⟨by rfl, rfl⟩) (by assumption) ?_
        try simp only [Act.put, List.getElem_toArray, List.getElem_cons_zero, List.getElem_cons_succ, List.setIfInBounds_toArray, List.set_cons_zero, List.set_cons_succ]
        refine wpAnyK_take (i := 6) (v := undef) rfl (by kernel_rfl) (fun _ _ _ h => h) (Or.inr ⟨by rfl, rfl⟩) (by assumption) ?_
        try simp only [Act.put, List.getElem_toArray, List.getElem_cons_zero, List.getElem_cons_succ, List.setIfInBounds_toArray, List.set_cons_zero, List.set_cons_succ]
        refine wpAnyK_take (i := 7) (v := undef) rfl (by kernel_rfl) (fun _ _ _ h => h) (Or.inr ⟨by rfl, rfl⟩) (by assumption) ?_
        try simp only [Act.put, List.getElem_toArray, List.getElem_cons_zero, List.getElem_cons_succ, List.setIfInBounds_toArray, List.set_cons_zero, List.set_cons_succ]
        refine wpAnyK_take (i := 8) (v := undef) rfl (by kernel_rfl) (fun _ _ _ h => h) (Or.inr ⟨by rfl, rfl⟩) (by assumption) ?_
        try simp only [Act.put, List.getElem_toArray, List.getElem_cons_zero, List.getElem_cons_succ, List.setIfInBounds_toArray, List.set_cons_zero, List.set_cons_succ]
        refine wpAnyK_take (i := 9) (v := undef) rfl (by kernel_rfl) (fun _ _ _ h => h) (Or.inr ⟨by rfl, rfl⟩) (by assumption) ?_
        try simp only [Act.put, List.getElem_toArray, List.getElem_cons_zero, List.getElem_cons_succ, List.setIfInBounds_toArray, List.set_cons_zero, List.set_cons_succ]
        refine wpAnyK_take (i := 10) (v := ?_) rfl (by kernel_rfl) (fun _ _ _ h => h) (Or.inl ⟨by rfl, ?_⟩) (by assumption) ?_
        rotate_left
        · (intro w hSw; (try dsimp only at hSw); go_simp; try with_reducible rfl)
        try simp only [Act.put, List.getElem_toArray, List.getElem_cons_zero, List.getElem_cons_succ, List.setIfInBounds_toArray, List.set_cons_zero, List.set_cons_succ]
        refine wpAnyK_take (i := 11) (v := ?_) rfl (by kernel_rfl) (fun _ _ _ h => h) (Or.inl ⟨by rfl, ?_⟩) (by assumption) ?_
        rotate_left
        · (intro w hSw; (try dsimp only at hSw); go_simp; try with_reducible rfl)
        try simp only [Act.put, List.getElem_toArray, List.getElem_cons_zero, List.getElem_cons_succ, List.setIfInBounds_toArray, List.set_cons_zero, List.set_cons_succ]
        refine wpAnyK_step (i := 12) rfl (by kernel_rfl) (fun K hK => ?_)
        go_simp
        with_reducible refine (awake6 _).mono ?_
        rintro e s3 ⟨rfl, hb⟩
        have S3 := Lib.hid (S0.out.trans (hb.mono S0.out.size))
        clear hb
        refine hK.out _ _ (KS.out _ S3.out) (fun hHeld3 => ?_)
        clear hK K hHeld0
        try simp only [Act.put, List.getElem_toArray, List.getElem_cons_zero, List.getElem_cons_succ, List.setIfInBounds_toArray, List.set_cons_zero, List.set_cons_succ]
        refine wpAnyK_take (i := 13) (v := ?_) rfl (by kernel_rfl) (fun _ _ _ h => h) (Or.inl ⟨by rfl, ?_⟩) (by assumption) ?_
        rotate_left
        · (intro w hSw; (try dsimp only at hSw); go_simp; try with_reducible rfl)
        try simp only [Act.put, List.getElem_toArray, List.getElem_cons_zero, List.getElem_cons_succ, List.setIfInBounds_toArray, List.set_cons_zero, List.set_cons_succ]
        refine wpAnyK_done (by kernel_rfl) ?_
        simp only [List.drop_succ_cons, List.drop_zero]
        clear hHeld3
        have HZ := Lib.hid (HB_10.out.trans (S3.out.mono HB_10.out.size))
        go_wp2_with fail
        go_ret
        exact ⟨rfl, HZ.out⟩
    · obtain ⟨c0, c1, c2, c3, c4, c5⟩ := Xr_8.out.box
      obtain ⟨d0, d1, d2, d3, d4, d5⟩ := Xg_8.out.box
      go_wp2_with fail
      try rw [hw8]
      clear hw8
      clear c0 c1 c2 c3 c4 c5 d0 d1 d2 d3 d4 d5
      with_reducible refine ((rsum_day a7 n7 cap7 z7 qr i7 HFr.out.good ag ng capg zg pg jg OG.out.good DR.out DF.out.2 _ Xr_8.out.row Xg_8.out.row).mono fun _ _ h => h.mx).mono ?_
      rintro e v9 ⟨a9, n9, cap9, z9, p9, i9, c9, rfl, hb, hr, hm, hc, hx⟩
      obtain ⟨w9, hw⟩ : ∃ W, v9.alloc (.cells #[.slice a9 n9 cap9, .int .i64 p9, .int .i64 i9] 26) = W := ⟨_, rfl⟩
      have hz : Below w8.heap.size w8 w9 := by rw [← hw]; exact hb.trans ((below_box _).mono hb.size)
      have Xf_9 := Lib.hid (Xf_8.out.under hz)
      have Xg_9 := Lib.hid (Xg_8.out.under hz)
      have Xr_9 := Lib.hid (Xr_8.out.under hz)
      have Xa_9 := Lib.hid (Xa_8.out.under hz)
      have HB_9 := Lib.hid (HB_8.out.trans (hz.mono HB_8.out.size))
      have Xb_9 := Lib.hid (show BxI w9 v9.heap.size a9 n9 cap9 p9 i9 z9 by rw [← hw]; exact BxI.new hr)
      have HM9 := Lib.hid hm
      have HC9 := Lib.hid hc
      have hw9 := hw
      clear hb hr hm hc hx hz hw
      obtain ⟨tz, htz⟩ : ∃ m, at0 % 2000 = m := ⟨_, rfl⟩
      have htb : 0 ≤ tz ∧ tz < 2000 := by rw [← htz]; exact ⟨Int.emod_nonneg _ (by omega), Int.emod_lt_of_pos _ (by omega)⟩
      obtain ⟨htb0, htb1⟩ := htb
      obtain ⟨T, rfl⟩ := Int.eq_ofNat_of_zero_le htb0
      have hT : T < 2000 := by omega
      have HTZ := Lib.hid htz
      clear htz htb0 htb1
      go_wp2_with fail
      try rw [hw9]
      clear hw9
      refine (mod_any at0 2000 HAT.out (by omega) (by omega) _).mono ?_
      rintro e wm ⟨rfl, rfl⟩
      rw [HTZ.out]
      rcases HC9.out with rfl | rfl
      · obtain ⟨qb, rfl, hfb⟩ := HM9.out.ok
        have HFb := Lib.hid hfb
        have XB := Lib.hid (Xb_9.out.nat)
        clear hfb
        obtain ⟨vb, hvb⟩ : ∃ v, atC z9 qb i9 T = v := ⟨_, rfl⟩
        obtain ⟨vf, hvf⟩ : ∃ v, atC zf pf jf T = v := ⟨_, rfl⟩
        have hle : vf ≤ vb := by
          rw [← hvb, ← hvf, ← enc_eC zf pf jf T, ← enc_eC z9 qb i9 T]
          refine enc_le ?_ (fun x h => by have := eC_bd OF.out.good h; unfold infV; omega)
          rw [HFb.out.val T]
          have h := sum_back (zs := zf) (p := pf) (inc := jf) (ys := zg) (q := pg) (jnc := jg) T
          unfold eSum
          rw [HFr.out.val T]
          exact h
        have HVB := Lib.hid hvb
        have HVF := Lib.hid hvf
        have KS := Lib.hid (show ∀ u, Below w9.heap.size w9 u → ((u.cell? ⟨v9.heap.size, 0, none⟩ = some (.slice a9 n9 cap9) ∧ u.cell? ⟨v9.heap.size, 1, none⟩ = some (.int .i64 qb) ∧ u.cell? ⟨v9.heap.size, 2, none⟩ = some (.int .i64 i9)) ∧ (u.cell? ⟨u3.heap.size, 0, none⟩ = some (.slice af nf capf) ∧ u.cell? ⟨u3.heap.size, 1, none⟩ = some (.int .i64 pf) ∧ u.cell? ⟨u3.heap.size, 2, none⟩ = some (.int .i64 jf))) from fun u hu => by
          have x := XB.out.box.below hu
          have y := Xf_9.out.box.below hu
          exact ⟨⟨x.c0, x.c1, x.c2⟩, y.c0, y.c1, y.c2⟩)
        have S0 := Lib.hid ((Below.refl w9.heap.size w9).drew)
        clear hvb hvf
        go_upto_region 17 with fail
        refine wp_region_keeps (fun u => ((u.cell? ⟨v9.heap.size, 0, none⟩ = some (.slice a9 n9 cap9) ∧ u.cell? ⟨v9.heap.size, 1, none⟩ = some (.int .i64 qb) ∧ u.cell? ⟨v9.heap.size, 2, none⟩ = some (.int .i64 i9)) ∧ (u.cell? ⟨u3.heap.size, 0, none⟩ = some (.slice af nf capf) ∧ u.cell? ⟨u3.heap.size, 1, none⟩ = some (.int .i64 pf) ∧ u.cell? ⟨u3.heap.size, 2, none⟩ = some (.int .i64 jf)))) 14 1 (by kernel_rfl) (by kernel_rfl) (KS.out _ S0.out) (fun hHeld0 => ?_)
        refine wpAnyK_take (i := 0) (v := ?_) rfl (by kernel_rfl) (fun _ _ _ h => h) (Or.inl ⟨by rfl, ?_⟩) (by assumption) ?_
        rotate_left
        · (intro w hSw; (try dsimp only at hSw); go_simp; try with_reducible rfl)
        try simp only [Act.put, List.getElem_toArray, List.getElem_cons_zero, List.getElem_cons_succ, List.setIfInBounds_toArray, List.set_cons_zero, List.set_cons_succ]
        refine wpAnyK_take (i := 1) (v := ?_) rfl (by kernel_rfl) (fun _ _ _ h => h) (Or.inl ⟨by rfl, ?_⟩) (by assumption) ?_
        rotate_left
        · (intro w hSw; (try dsimp only at hSw); go_simp; try with_reducible rfl)
        try simp only [Act.put, List.getElem_toArray, List.getElem_cons_zero, List.getElem_cons_succ, List.setIfInBounds_toArray, List.set_cons_zero, List.set_cons_succ]
        refine wpAnyK_take (i := 2) (v := ?_) rfl (by kernel_rfl) (fun _ _ _ h => h) (Or.inl ⟨by rfl, ?_⟩) (by assumption) ?_
        rotate_left
        · (intro w hSw; (try dsimp only at hSw); go_simp; try with_reducible rfl)
        try simp only [Act.put, List.getElem_toArray, List.getElem_cons_zero, List.getElem_cons_succ, List.setIfInBounds_toArray, List.set_cons_zero, List.set_cons_succ]
        refine wpAnyK_take (i := 3) (v := ?_) rfl (by kernel_rfl) (fun _ _ _ h => h) (Or.inl ⟨by rfl, ?_⟩) (by assumption) ?_
        rotate_left
        · (intro w hSw; (try dsimp only at hSw); go_simp; try with_reducible rfl)
        try simp only [Act.put, List.getElem_toArray, List.getElem_cons_zero, List.getElem_cons_succ, List.setIfInBounds_toArray, List.set_cons_zero, List.set_cons_succ]
        refine wpAnyK_take (i := 4) (v := ?_) rfl (by kernel_rfl) (fun _ _ _ h => h) (Or.inl ⟨by rfl, ?_⟩) (by assumption) ?_
        rotate_left
        · (intro w hSw; (try dsimp only at hSw); go_simp; try with_reducible rfl)
        try simp only [Act.put, List.getElem_toArray, List.getElem_cons_zero, List.getElem_cons_succ, List.setIfInBounds_toArray, List.set_cons_zero, List.set_cons_succ]
        refine wpAnyK_take (i := 6) (v := ?_) rfl (by kernel_rfl) (fun _ _ _ h => h) (Or.inl ⟨by rfl, ?_⟩) (by assumption) ?_
        rotate_left
        · (intro w hSw; (try dsimp only at hSw); go_simp; try with_reducible rfl)
        try simp only [Act.put, List.getElem_toArray, List.getElem_cons_zero, List.getElem_cons_succ, List.setIfInBounds_toArray, List.set_cons_zero, List.set_cons_succ]
        refine wpAnyK_take (i := 7) (v := ?_) rfl (by kernel_rfl) (fun _ _ _ h => h) (Or.inl ⟨by rfl, ?_⟩) (by assumption) ?_
        rotate_left
        · (intro w hSw; (try dsimp only at hSw); go_simp; try with_reducible rfl)
        try simp only [Act.put, List.getElem_toArray, List.getElem_cons_zero, List.getElem_cons_succ, List.setIfInBounds_toArray, List.set_cons_zero, List.set_cons_succ]
        refine wpAnyK_step (i := 5) rfl (by kernel_rfl) (fun K hK => ?_)
        go_simp
        with_reducible refine (rat_at a9 n9 cap9 z9 qb i9 HFb.out.good _ T rfl (by omega) vb HVB.out _ (XB.out.row.under S0.out)).mono ?_
        rintro e s1 ⟨rfl, hb⟩
        have S1 := Lib.hid (S0.out.trans (hb.mono S0.out.size))
        clear hb
        refine hK.out _ _ (KS.out _ S1.out) (fun hHeld1 => ?_)
        clear hK K hHeld0
        try simp only [Act.put, List.getElem_toArray, List.getElem_cons_zero, List.getElem_cons_succ, List.setIfInBounds_toArray, List.set_cons_zero, List.set_cons_succ]
        refine wpAnyK_step (i := 8) rfl (by kernel_rfl) (fun K hK => ?_)
        go_simp
        with_reducible refine (rat_at af nf capf zf pf jf OF.out.good _ T rfl (by omega) vf HVF.out _ (Xf_9.out.row.under S1.out)).mono ?_
        rintro e s2 ⟨rfl, hb⟩
        have S2 := Lib.hid (S1.out.trans (hb.mono S1.out.size))
        clear hb
        refine hK.out _ _ (KS.out _ S2.out) (fun hHeld2 => ?_)
        clear hK K hHeld1
        try simp only [Act.put, List.getElem_toArray, List.getElem_cons_zero, List.getElem_cons_succ, List.setIfInBounds_toArray, List.set_cons_zero, List.set_cons_succ]
        refine wpAnyK_take (i := 9) (v := ?_) rfl (by kernel_rfl) (fun _ _ _ h => h) (Or.inl ⟨by rfl, ?_⟩) (by assumption) ?_
        rotate_left
        · (intro w hSw; (try dsimp only at hSw); go_simp; try with_reducible rfl)
        try simp only [Act.put, List.getElem_toArray, List.getElem_cons_zero, List.getElem_cons_succ, List.setIfInBounds_toArray, List.set_cons_zero, List.set_cons_succ]
        refine wpAnyK_take (i := 10) (v := ?_) rfl (by kernel_rfl) (fun _ _ _ h => h) (Or.inl ⟨by rfl, ?_⟩) (by assumption) ?_
        rotate_left
        · (intro w hSw; (try dsimp only at hSw); go_simp; try with_reducible rfl)
        try simp only [Act.put, List.getElem_toArray, List.getElem_cons_zero, List.getElem_cons_succ, List.setIfInBounds_toArray, List.set_cons_zero, List.set_cons_succ]
        refine wpAnyK_take (i := 11) (v := ?_) rfl (by kernel_rfl) (fun _ _ _ h => h) (Or.inl ⟨by rfl, ?_⟩) (by assumption) ?_
        rotate_left
        · (intro w hSw; (try dsimp only at hSw); go_simp; try with_reducible rfl)
        try simp only [Act.put, List.getElem_toArray, List.getElem_cons_zero, List.getElem_cons_succ, List.setIfInBounds_toArray, List.set_cons_zero, List.set_cons_succ]
        refine wpAnyK_step (i := 12) rfl (by kernel_rfl) (fun K hK => ?_)
        go_simp
        with_reducible refine (awake6 _).mono ?_
        rintro e s3 ⟨rfl, hb⟩
        have S3 := Lib.hid (S2.out.trans (hb.mono S2.out.size))
        clear hb
        refine hK.out _ _ (KS.out _ S3.out) (fun hHeld3 => ?_)
        clear hK K hHeld2
        try simp only [Act.put, List.getElem_toArray, List.getElem_cons_zero, List.getElem_cons_succ, List.setIfInBounds_toArray, List.set_cons_zero, List.set_cons_succ]
        refine wpAnyK_take (i := 13) (v := ?_) rfl (by kernel_rfl) (fun _ _ _ h => h) (Or.inl ⟨by rfl, ?_⟩) (by assumption) ?_
        rotate_left
        · (intro w hSw; (try dsimp only at hSw); go_simp; try with_reducible rfl)
        try simp only [Act.put, List.getElem_toArray, List.getElem_cons_zero, List.getElem_cons_succ, List.setIfInBounds_toArray, List.set_cons_zero, List.set_cons_succ]
        refine wpAnyK_done (by kernel_rfl) ?_
        simp only [List.drop_succ_cons, List.drop_zero]
        clear hHeld3
        have HZ := Lib.hid (HB_9.out.trans (S3.out.mono HB_9.out.size))
        go_wp2_with fail
        go_ret
        exact ⟨rfl, HZ.out⟩
      · have KS := Lib.hid (show ∀ u, Below w9.heap.size w9 u → (u.cell? ⟨u3.heap.size, 0, none⟩ = some (.slice af nf capf) ∧ u.cell? ⟨u3.heap.size, 1, none⟩ = some (.int .i64 pf)) from fun u hu => by
          have y := Xf_9.out.box.below hu
          exact ⟨y.c0, y.c1⟩)
        have S0 := Lib.hid ((Below.refl w9.heap.size w9).drew)
        go_upto_region 17 with fail
        refine wp_region_keeps (fun u => (u.cell? ⟨u3.heap.size, 0, none⟩ = some (.slice af nf capf) ∧ u.cell? ⟨u3.heap.size, 1, none⟩ = some (.int .i64 pf))) 14 1 (by kernel_rfl) (by kernel_rfl) (KS.out _ S0.out) (fun hHeld0 => ?_)
        refine wpAnyK_take (i := 0) (v := ?_) rfl (by kernel_rfl) (fun _ _ _ h => h) (Or.inl ⟨by rfl, ?_⟩) (by assumption) ?_
        rotate_left
        · (intro w hSw; (try dsimp only at hSw); go_simp; try with_reducible rfl)
        try simp only [Act.put, List.getElem_toArray, List.getElem_cons_zero, List.getElem_cons_succ, List.setIfInBounds_toArray, List.set_cons_zero, List.set_cons_succ]
        refine wpAnyK_take (i := 1) (v := ?_) rfl (by kernel_rfl) (fun _ _ _ h => h) (Or.inl ⟨by rfl, ?_⟩) (by assumption) ?_
        rotate_left
        · (intro w hSw; (try dsimp only at hSw); go_simp; try with_reducible rfl)
        try simp only [Act.put, List.getElem_toArray, List.getElem_cons_zero, List.getElem_cons_succ, List.setIfInBounds_toArray, List.set_cons_zero, List.set_cons_succ]
        refine wpAnyK_take (i := 2) (v := ?_) rfl (by kernel_rfl) (fun _ _ _ h => h) (Or.inl ⟨by rfl, ?_⟩) (by assumption) ?_
        rotate_left
        · (intro w hSw; (try dsimp only at hSw); go_simp; try with_reducible rfl)
        try simp only [Act.put, List.getElem_toArray, List.getElem_cons_zero, List.getElem_cons_succ, List.setIfInBounds_toArray, List.set_cons_zero, List.set_cons_succ]
        refine wpAnyK_take (i := 3) (v := undef) rfl (by kernel_rfl) (fun _ _ _ h => h) (Or.inr ⟨by rfl, rfl⟩) (by assumption) ?_
        try simp only [Act.put, List.getElem_toArray, List.getElem_cons_zero, List.getElem_cons_succ, List.setIfInBounds_toArray, List.set_cons_zero, List.set_cons_succ]
        refine wpAnyK_take (i := 4) (v := undef) rfl (by kernel_rfl) (fun _ _ _ h => h) (Or.inr ⟨by rfl, rfl⟩) (by assumption) ?_
        try simp only [Act.put, List.getElem_toArray, List.getElem_cons_zero, List.getElem_cons_succ, List.setIfInBounds_toArray, List.set_cons_zero, List.set_cons_succ]
        refine wpAnyK_take (i := 5) (v := undef) rfl (by kernel_rfl) (fun _ _ _ h => h) (Or.inr ⟨by rfl, rfl⟩) (by assumption) ?_
        try simp only [Act.put, List.getElem_toArray, List.getElem_cons_zero, List.getElem_cons_succ, List.setIfInBounds_toArray, List.set_cons_zero, List.set_cons_succ]
        refine wpAnyK_take (i := 6) (v := undef) rfl (by kernel_rfl) (fun _ _ _ h => h) (Or.inr ⟨by rfl, rfl⟩) (by assumption) ?_
        try simp only [Act.put, List.getElem_toArray, List.getElem_cons_zero, List.getElem_cons_succ, List.setIfInBounds_toArray, List.set_cons_zero, List.set_cons_succ]
        refine wpAnyK_take (i := 7) (v := undef) rfl (by kernel_rfl) (fun _ _ _ h => h) (Or.inr ⟨by rfl, rfl⟩) (by assumption) ?_
        try simp only [Act.put, List.getElem_toArray, List.getElem_cons_zero, List.getElem_cons_succ, List.setIfInBounds_toArray, List.set_cons_zero, List.set_cons_succ]
        refine wpAnyK_take (i := 8) (v := undef) rfl (by kernel_rfl) (fun _ _ _ h => h) (Or.inr ⟨by rfl, rfl⟩) (by assumption) ?_
        try simp only [Act.put, List.getElem_toArray, List.getElem_cons_zero, List.getElem_cons_succ, List.setIfInBounds_toArray, List.set_cons_zero, List.set_cons_succ]
        refine wpAnyK_take (i := 9) (v := undef) rfl (by kernel_rfl) (fun _ _ _ h => h) (Or.inr ⟨by rfl, rfl⟩) (by assumption) ?_
        try simp only [Act.put, List.getElem_toArray, List.getElem_cons_zero, List.getElem_cons_succ, List.setIfInBounds_toArray, List.set_cons_zero, List.set_cons_succ]
        refine wpAnyK_take (i := 10) (v := ?_) rfl (by kernel_rfl) (fun _ _ _ h => h) (Or.inl ⟨by rfl, ?_⟩) (by assumption) ?_
        rotate_left
        · (intro w hSw; (try dsimp only at hSw); go_simp; try with_reducible rfl)
        try simp only [Act.put, List.getElem_toArray, List.getElem_cons_zero, List.getElem_cons_succ, List.setIfInBounds_toArray, List.set_cons_zero, List.set_cons_succ]
        refine wpAnyK_take (i := 11) (v := ?_) rfl (by kernel_rfl) (fun _ _ _ h => h) (Or.inl ⟨by rfl, ?_⟩) (by assumption) ?_
        rotate_left
        · (intro w hSw; (try dsimp only at hSw); go_simp; try with_reducible rfl)
        try simp only [Act.put, List.getElem_toArray, List.getElem_cons_zero, List.getElem_cons_succ, List.setIfInBounds_toArray, List.set_cons_zero, List.set_cons_succ]
        refine wpAnyK_step (i := 12) rfl (by kernel_rfl) (fun K hK => ?_)
        go_simp
        with_reducible refine (awake6 _).mono ?_
        rintro e s3 ⟨rfl, hb⟩
        have S3 := Lib.hid (S0.out.trans (hb.mono S0.out.size))
        clear hb
        refine hK.out _ _ (KS.out _ S3.out) (fun hHeld3 => ?_)
        clear hK K hHeld0
        try simp only [Act.put, List.getElem_toArray, List.getElem_cons_zero, List.getElem_cons_succ, List.setIfInBounds_toArray, List.set_cons_zero, List.set_cons_succ]
        refine wpAnyK_take (i := 13) (v := ?_) rfl (by kernel_rfl) (fun _ _ _ h => h) (Or.inl ⟨by rfl, ?_⟩) (by assumption) ?_
        rotate_left
        · (intro w hSw; (try dsimp only at hSw); go_simp; try with_reducible rfl)
        try simp only [Act.put, List.getElem_toArray, List.getElem_cons_zero, List.getElem_cons_succ, List.setIfInBounds_toArray, List.set_cons_zero, List.set_cons_succ]
        refine wpAnyK_done (by kernel_rfl) ?_
        simp only [List.drop_succ_cons, List.drop_zero]
        clear hHeld3
        have HZ := Lib.hid (HB_9.out.trans (S3.out.mono HB_9.out.size))
        go_wp2_with fail
        go_ret
        exact ⟨rfl, HZ.out⟩
  · rcases HC8.out with rfl | rfl
    · go_wp2_with fail
      try rw [hw8]
      clear hw8
      refine (awake6 _).mono ?_
      rintro e yz ⟨rfl, hb⟩
      have HZ := Lib.hid (HB_8.out.trans (hb.mono HB_8.out.size))
      clear hb
      go_wp2_with fail
      go_ret
      exact ⟨rfl, HZ.out⟩
    · go_wp2_with fail
      try rw [hw8]
      clear hw8
      refine (awake6 _).mono ?_
      rintro e yz ⟨rfl, hb⟩
      have HZ := Lib.hid (HB_8.out.trans (hb.mono HB_8.out.size))
      clear hb
      go_wp2_with fail
      go_ret
      exact ⟨rfl, HZ.out⟩

end Go.Proofs.Ytknimlpdpgpliaa
