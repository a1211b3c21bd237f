/- The walk of DeconvolutionWaits. By the verifier's side. -/
import Derived.Test.YtcbocglakielnaaWDecW
import Derived.Test.YtcbocglakielnaaWRefA
namespace Go.Proofs.Ytcbocglakielnaa
open Go.RowKit
set_option linter.unusedSimpArgs false
set_option linter.unusedVariables false

theorem ahead_nice {most : Nat} {zs : List Int} {p : Nat} {inc : Int} (o : OkCur most zs p inc) (hm : most ≤ 9) {n : Nat} (hn : n ≤ 20) : Nice 100000 (fun t => eC zs p inc (t + n)) := by
  have g := o.good
  have hl := o.few
  refine ⟨fun t h => ?_, fun t x y h1 h2 => ?_, fun t x ht hx => ?_, ?_⟩
  · have := eC_up g h; rwa [show t + n + 1 = t + 1 + n by omega] at this
  · rw [show t + 1 + n = t + n + 1 by omega] at h2; exact eC_mono g h1 h2
  · have hb := eC_bd g hx
    refine ⟨hb.1, ?_⟩
    by_cases hi : InfC zs
    · have hlt : t + n < zs.length := Nat.lt_of_not_le fun hle => by rw [eC_late g hi (by omega)] at hx; cases hx
      have e := hb.2.2
      rw [atC_lt hlt] at e
      rcases o.val _ hlt with h | h
      · omega
      · have := (eC_none.2 ⟨hi, by rw [atC_lt hlt, h]⟩ : eC zs p inc (t + n) = none)
        rw [this] at hx; cases hx
    · have := o.slow hi (t + n)
      have e := hb.2.2
      omega
  · by_cases hi : InfC zs
    · exact .inl fun t ht => eC_late g hi (by omega)
    · rcases (drawn_nice o hm).tail with hn2 | ⟨hs, c, hp⟩
      · exact .inl fun t ht => hn2 (t + n) (by omega)
      · have e : encF (fun t => eC zs p inc (t + n)) = fun t => encF (eC zs p inc) (t + n) := rfl
        refine .inr ⟨fun t => hs (t + n), c, fun t ht => ?_⟩
        rw [e]
        have := hp (t + n) (by omega)
        rw [show t + n + 24 = t + 24 + n by omega] at this
        exact this

theorem dec_ahead {zs ys : List Int} {p q n : Nat} {inc jnc : Int} (g : Good zs p inc) (h : EForm ys q jnc (eWait n)) : eDec zs p inc ys q jnc = fun t => eC zs p inc (t + n) := funext fun t =>
  dec_wait (fun u hu => by rw [h.2.1]; exact if_pos hu) (fun u hu => by rw [h.2.1]; exact if_neg (by omega)) (fun t k => eC_monoK g t k) t

theorem dec_grow {zs ys : List Int} {p q : Nat} {inc jnc : Int} (g : Good zs p inc) (hf : ¬ InfC zs) (hi : 1 ≤ inc) (h : ∀ u, eC ys q jnc u = some 0) : eDec zs p inc ys q jnc = fun _ => none := funext fun t => by
  cases hd : eDec zs p inc ys q jnc t with
  | none => rfl
  | some x =>
    exfalso
    have hub := (dec_is (a := eC zs p inc) (b := eC ys q jnc) (h 0) t).1
    rw [show oDec (eC zs p inc) (eC ys q jnc) t = some x from hd] at hub
    have hp := (g.per hf).mul (x.toNat + 1) (t + zs.length) (by omega)
    obtain ⟨z, hz, hzl⟩ := hub (zs.length + (x.toNat + 1) * p) 0 (h _) _ rfl
    rw [eC_fin hf] at hz; cases hz
    rw [show t + (zs.length + (x.toNat + 1) * p) = t + zs.length + (x.toNat + 1) * p by omega, hp] at hzl
    have h1 := (g.bd hf (t + zs.length)).1
    have h2 : ((x.toNat + 1 : Nat) : Int) * 1 ≤ ((x.toNat + 1 : Nat) : Int) * inc := Int.mul_le_mul_of_nonneg_left hi (by omega)
    omega

theorem more_good {zs : List Int} {p : Nat} {inc : Int} (g : Good zs p inc) (hf : ¬ InfC zs) (h : Sm zs p inc) : Good zs p (inc + p) :=
  ⟨g.few, g.p1, g.p2, g.p3, by have := g.i0; omega, by have := h.2.2.1; have := h.2.1; omega, g.val, g.mono, fun k => absurd k hf, fun k => by have := g.tailF k; omega⟩
theorem div_day {zs : List Int} {p : Nat} {inc : Int} (g : Good zs p inc) (hf : ¬ InfC zs) (h : 24 % p = 0) : Day (eC zs p inc) := by
  have hp := (g.per hf).mul (24 / p)
  rw [Nat.div_mul_cancel (Nat.dvd_of_mod_eq_zero h)] at hp
  exact day_some (F := atC zs p inc) (fun t _ => eC_fin hf p inc t) hp
theorem flat_all (t : Nat) : eC [0, 0] 1 0 t = some 0 := by
  have g : Good [0, 0] 1 0 := (okC_iff [0, 0] 1 0).1 (by decide)
  have hf : ¬ InfC [0, 0] := by rw [infC_iff]; decide
  rw [eC_fin hf]
  rcases (show t = 0 ∨ 1 ≤ t by omega) with rfl | h
  · rfl
  · obtain ⟨k, rfl⟩ : ∃ k, t = 1 + k := ⟨t - 1, by omega⟩
    rw [per1 g hf (s := 1) rfl k]
    show some (0 + (k : Int) * 0) = some 0
    rw [Int.mul_zero, Int.add_zero]

/-- What stands at the tick that is looked at. -/
structure WT (W : World) (F H : Nat) (af : Option Addr) (nf capf : Nat) (zf : List Int) (pf : Nat) (jf : Int) (ah : Option Addr) (nh caph : Nat) (zh : List Int) (ph : Nat) (jh : Int) (u : World) : Prop where
  f : Bx u F af nf capf pf jf zf
  h : Bx u H ah nh caph ph jh zh
  below : Below W.heap.size W u
theorem WT.call {W : World} {F H : Nat} {af : Option Addr} {nf capf : Nat} {zf : List Int} {pf : Nat} {jf : Int} {ah : Option Addr} {nh caph : Nat} {zh : List Int} {ph : Nat} {jh : Int} {u v : World} (k : WT W F H af nf capf zf pf jf ah nh caph zh ph jh u) (hb : Below u.heap.size u v) : WT W F H af nf capf zf pf jf ah nh caph zh ph jh v :=
  ⟨k.f.under hb, k.h.under hb, k.below.trans (hb.mono k.below.size)⟩

set_option maxRecDepth 100000 in
set_option maxHeartbeats 6400000 in
theorem deconvolutionWaits_walk (W : World) (a : Option Addr) (n cap : Nat) (hrow : RowAt W a n cap) (at1 : Int) (hat : In64 at1) :
    Calls Try.prog 12 #[.slice a n cap, .int .i64 at1] W fun e w' => e = .returned (.bool true) ∧ Below W.heap.size W w' := by
  have HR := Lib.hid hrow
  have HAT := Lib.hid hat
  clear hrow hat
  go_enter Try.func12, Try.ntmps12
  go_wp2_with fail
  refine (new_any a n cap _ HR.out).mono ?_
  rintro e u1 ⟨rfl, hb1, hz1, ra, rn, rc, hs1⟩
  have HB1 := Lib.hid hb1
  have HS1 := Lib.hid hs1
  have Z1 := Lib.hid hz1
  clear hb1 hz1 hs1
  go_wp2_with fail
  refine (curve_any 7 (by omega) (by omega) _ ra rn rc _ HS1.out).mono ?_
  rintro e u2 ⟨af, nf, capf, zf, pf, jf, rfl, hs2, he2, hr2, ok2, hx2⟩
  have OF := Lib.hid ok2
  have HS2 := Lib.hid hs2
  have R2 := Lib.hid hr2
  have X2 := Lib.hid (show ∀ x, af = some x → ¬ x.block = W.heap.size from fun x hx => by have := hx2 x hx; have := Z1.out; omega)
  have HB2 := Lib.hid (HB1.out.trans (he2.below (Nat.le_refl _) HB1.out.size))
  clear hs2 he2 hr2 ok2 hx2
  go_wp2_with fail
  refine (n_any 20 (by omega) (by omega) _ ra rn rc _ HS2.out).mono ?_
  rintro e u3 ⟨ri, ⟨hr0, hr20⟩, rfl, hs3, he3⟩
  obtain ⟨m, rfl⟩ := Int.eq_ofNat_of_zero_le hr0
  have hm : m ≤ 20 := by omega
  have HS3 := Lib.hid hs3
  have R3 := Lib.hid (R2.out.apart he3.apart X2.out)
  have HB3 := Lib.hid (HB2.out.trans (he3.apart.below (Nat.le_refl _) HB2.out.size))
  clear hs3 he3 hr0 hr20
  obtain ⟨w0, hw⟩ : ∃ w', u3.alloc (.cells #[.slice af nf capf, .int .i64 pf, .int .i64 jf] 24) = w' := ⟨_, rfl⟩
  have hz : Below u3.heap.size u3 w0 := by rw [← hw]; exact below_box _
  have Xf := Lib.hid (show Bx w0 u3.heap.size af nf capf pf jf zf by rw [← hw]; exact Bx.new R3.out)
  have HB4 := Lib.hid (HB3.out.trans (hz.mono HB3.out.size))
  have SR0 := Lib.hid (src_under HS3.out hz)
  have SW := Lib.hid (show W.heap.size < u3.heap.size from lt_of_cell (src_cell HS3.out))
  have HW0 := Lib.hid hw
  clear hw hz
  go_upto_region 3 with fail
  try rw [HW0.out]
  go_wp2_with fail
  with_reducible refine (rwait_any _ m rfl (by omega) _).mono ?_
  rintro e v1 ⟨a1, n1, cap1, z1, p1, i1, rfl, hb, hr, hf, hx⟩
  obtain ⟨w1, hw⟩ : ∃ w', v1.alloc (.cells #[.slice a1 n1 cap1, .int .i64 p1, .int .i64 i1] 24) = w' := ⟨_, rfl⟩
  have hz : Below w0.heap.size w0 w1 := by rw [← hw]; exact hb.trans ((below_box _).mono hb.size)
  have Xf_1 := Lib.hid (Xf.out.under hz)
  have SR1 := Lib.hid (src_under SR0.out hz)
  have HB_1 := Lib.hid (HB4.out.trans (hz.mono HB4.out.size))
  have Xw_1 := Lib.hid (show Bx w1 v1.heap.size a1 n1 cap1 p1 i1 z1 by rw [← hw]; exact Bx.new hr)
  have HFw := Lib.hid hf
  have HW1 := Lib.hid hw
  clear hb hr hf hx hz hw
  have HC := Lib.hid (show ECan (eDec zf pf jf z1 p1 i1) by rw [dec_ahead OF.out.good HFw.out]; exact (ahead_nice OF.out (by omega) hm).can (by omega))
  have HD := Lib.hid (show Day (eC zf pf jf) ∧ Day (eC z1 p1 i1) from ⟨(drawn_nice OF.out (by omega)).day, (wait_day m).of HFw.out.val⟩)
  have H0 := Lib.hid (show atC z1 p1 i1 0 = 0 by rw [form_at HFw.out 0]; exact encF_some (if_pos (Nat.zero_le _)))
  go_upto_region 4 with fail
  try rw [HW1.out]
  obtain ⟨c0, c1, c2, c3, c4, c5⟩ := Xf_1.out.box
  obtain ⟨d0, d1, d2, d3, d4, d5⟩ := Xw_1.out.box
  go_wp2_with fail
  clear c0 c1 c2 c3 c4 c5 d0 d1 d2 d3 d4 d5
  with_reducible refine ((dof_day af nf capf zf pf jf OF.out.good a1 n1 cap1 z1 p1 i1 HFw.out.good H0.out HD.out.1 HD.out.2 _ Xf_1.out.row Xw_1.out.row).mono fun _ _ h => h.ok HC.out).mono ?_
  rintro e v2 ⟨a2, n2, cap2, z2, p2, i2, rfl, hb, hr, hf, hx⟩
  obtain ⟨w2, hw⟩ : ∃ w', v2.alloc (.cells #[.slice a2 n2 cap2, .int .i64 p2, .int .i64 i2] 24) = w' := ⟨_, rfl⟩
  have hz : Below w1.heap.size w1 w2 := by rw [← hw]; exact hb.trans ((below_box _).mono hb.size)
  have SR2 := Lib.hid (src_under SR1.out hz)
  have T2 := Lib.hid (show WT W u3.heap.size v2.heap.size af nf capf zf pf jf a2 n2 cap2 z2 p2 i2 w2 from ⟨Xf_1.out.under hz, by rw [← hw]; exact Bx.new hr, HB_1.out.trans (hz.mono HB_1.out.size)⟩)
  have HFh := Lib.hid (show EForm z2 p2 i2 (fun t => eC zf pf jf (t + m)) by rw [← dec_ahead OF.out.good HFw.out]; exact hf)
  have HW2 := Lib.hid hw
  clear hb hr hf hx hz hw SR0 SR1 Xf Xf_1 Xw_1 HB4 HB_1 HW0 HW1
  go_upto_region 5 with fail
  try rw [HW2.out]
  go_wp2_with fail
  refine (mod_any at1 500 HAT.out (by omega) (by omega) _).mono ?_
  rintro e u4 ⟨rfl, rfl⟩
  obtain ⟨t, ht⟩ := Int.eq_ofNat_of_zero_le (show 0 ≤ at1 % 500 by omega)
  have ht5 : t < 500 := by omega
  rw [ht]
  clear ht
  obtain ⟨x, hx⟩ : ∃ x, atC z2 p2 i2 t = x := ⟨_, rfl⟩
  have HX := Lib.hid (show atC z2 p2 i2 t = x ∧ atC zf pf jf (t + m) = x from ⟨hx, by rw [← hx, form_at HFh.out t]; exact (enc_eC zf pf jf (t + m)).symm⟩)
  clear hx
  obtain ⟨s, hs⟩ : ∃ s, t + m = s := ⟨_, rfl⟩
  have hsi : (t : Int) + (m : Int) = (s : Int) := by omega
  have hsw : IntKind.i64.wrap (s : Int) = (s : Int) := IntWalk.i64_in _ ⟨by omega, by omega⟩
  have hs6 : s ≤ 600 := by omega
  rw [hs] at HX
  clear hs
  have T3 := Lib.hid (T2.out.call (Below.refl _ _).drew)
  have SR3 := Lib.hid (src_under SR2.out (Below.refl _ _).drew)
  have KS := Lib.hid (show ∀ u, Below w2.drew.heap.size w2.drew u → WT W u3.heap.size v2.heap.size af nf capf zf pf jf a2 n2 cap2 z2 p2 i2 u → (fun u => u.cell? ⟨u3.heap.size, 0, none⟩ = some (.slice af nf capf) ∧ u.cell? ⟨u3.heap.size, 1, none⟩ = some (.int .i64 pf) ∧ u.cell? ⟨u3.heap.size, 2, none⟩ = some (.int .i64 jf) ∧ u.cell? ⟨v2.heap.size, 0, none⟩ = some (.slice a2 n2 cap2) ∧ u.cell? ⟨v2.heap.size, 1, none⟩ = some (.int .i64 p2) ∧ u.cell? ⟨v2.heap.size, 2, none⟩ = some (.int .i64 i2) ∧ Hid (Below w2.drew.heap.size w2.drew u) ∧ Hid (WT W u3.heap.size v2.heap.size af nf capf zf pf jf a2 n2 cap2 z2 p2 i2 u)) u from fun u hb h => ⟨h.f.box.c0, h.f.box.c1, h.f.box.c2, h.h.box.c0, h.h.box.c1, h.h.box.c2, hb, h⟩)
  go_upto_region 8 with fail
  refine wp_region_keeps (fun u => u.cell? ⟨u3.heap.size, 0, none⟩ = some (.slice af nf capf) ∧ u.cell? ⟨u3.heap.size, 1, none⟩ = some (.int .i64 pf) ∧ u.cell? ⟨u3.heap.size, 2, none⟩ = some (.int .i64 jf) ∧ u.cell? ⟨v2.heap.size, 0, none⟩ = some (.slice a2 n2 cap2) ∧ u.cell? ⟨v2.heap.size, 1, none⟩ = some (.int .i64 p2) ∧ u.cell? ⟨v2.heap.size, 2, none⟩ = some (.int .i64 i2) ∧ Hid (Below w2.drew.heap.size w2.drew u) ∧ Hid (WT W u3.heap.size v2.heap.size af nf capf zf pf jf a2 n2 cap2 z2 p2 i2 u)) 8 1 (by kernel_rfl) (by kernel_rfl) (KS.out _ (Below.refl _ _) T3.out) (fun hHeld0 => ?_)
  refine wpAnyK_take (i := 0) (v := ?_) rfl (by kernel_rfl) (fun _ _ _ h => h) (Or.inl ⟨by rfl, ?_⟩) (by assumption) ?_
  rotate_left
  · (intro w hSw; (try dsimp only at hSw); go_simp; try with_reducible rfl)
  try simp only [Act.put, List.getElem_toArray, List.getElem_cons_zero, List.getElem_cons_succ, List.setIfInBounds_toArray, List.set_cons_zero, List.set_cons_succ]
  refine wpAnyK_take (i := 1) (v := ?_) rfl (by kernel_rfl) (fun _ _ _ h => h) (Or.inl ⟨by rfl, ?_⟩) (by assumption) ?_
  rotate_left
  · (intro w hSw; (try dsimp only at hSw); go_simp; try with_reducible rfl)
  try simp only [Act.put, List.getElem_toArray, List.getElem_cons_zero, List.getElem_cons_succ, List.setIfInBounds_toArray, List.set_cons_zero, List.set_cons_succ]
  refine wpAnyK_take (i := 3) (v := ?_) rfl (by kernel_rfl) (fun _ _ _ h => h) (Or.inl ⟨by rfl, ?_⟩) (by assumption) ?_
  rotate_left
  · (intro w hSw; (try dsimp only at hSw); go_simp; try with_reducible rfl)
  try simp only [Act.put, List.getElem_toArray, List.getElem_cons_zero, List.getElem_cons_succ, List.setIfInBounds_toArray, List.set_cons_zero, List.set_cons_succ]
  refine wpAnyK_take (i := 4) (v := ?_) rfl (by kernel_rfl) (fun _ _ _ h => h) (Or.inl ⟨by rfl, ?_⟩) (by assumption) ?_
  rotate_left
  · (intro w hSw; (try dsimp only at hSw); go_simp; try with_reducible rfl)
  try simp only [Act.put, List.getElem_toArray, List.getElem_cons_zero, List.getElem_cons_succ, List.setIfInBounds_toArray, List.set_cons_zero, List.set_cons_succ]
  refine wpAnyK_take (i := 5) (v := ?_) rfl (by kernel_rfl) (fun _ _ _ h => h) (Or.inl ⟨by rfl, ?_⟩) (by assumption) ?_
  rotate_left
  · (intro w hSw; (try dsimp only at hSw); go_simp; try with_reducible rfl)
  try simp only [Act.put, List.getElem_toArray, List.getElem_cons_zero, List.getElem_cons_succ, List.setIfInBounds_toArray, List.set_cons_zero, List.set_cons_succ]
  refine wpAnyK_take (i := 6) (v := ?_) rfl (by kernel_rfl) (fun _ _ _ h => h) (Or.inl ⟨by rfl, ?_⟩) (by assumption) ?_
  rotate_left
  · (intro w hSw; (try dsimp only at hSw); go_simp; try with_reducible rfl)
  try simp only [Act.put, List.getElem_toArray, List.getElem_cons_zero, List.getElem_cons_succ, List.setIfInBounds_toArray, List.set_cons_zero, List.set_cons_succ]
  refine wpAnyK_step (i := 2) rfl (by kernel_rfl) (fun K hK => ?_)
  go_simp
  with_reducible refine (rat_at a2 n2 cap2 z2 p2 i2 HFh.out.good t t rfl (by omega) x HX.out.1 _ T3.out.h.row).mono ?_
  rintro e u7 ⟨rfl, hb⟩
  have T4 := Lib.hid (T3.out.call hb)
  have B4 := Lib.hid hb
  clear hb
  refine hK.out _ _ (KS.out _ B4.out T4.out) (fun hHeld1 => ?_)
  clear hK K hHeld0
  try simp only [Act.put, List.getElem_toArray, List.getElem_cons_zero, List.getElem_cons_succ, List.setIfInBounds_toArray, List.set_cons_zero, List.set_cons_succ]
  refine wpAnyK_step (i := 7) rfl (by kernel_rfl) (fun K hK => ?_)
  go_simp
  with_reducible refine (rat_at af nf capf zf pf jf OF.out.good s s rfl (by omega) x HX.out.2 _ T4.out.f.row).mono ?_
  rintro e u8 ⟨rfl, hb⟩
  have T5 := Lib.hid (T4.out.call hb)
  have B5 := Lib.hid (B4.out.trans (hb.mono B4.out.size))
  clear hb
  refine hK.out _ _ (KS.out _ B5.out T5.out) (fun hHeld2 => ?_)
  clear hK K hHeld1
  try simp only [Act.put, List.getElem_toArray, List.getElem_cons_zero, List.getElem_cons_succ, List.setIfInBounds_toArray, List.set_cons_zero, List.set_cons_succ]
  refine wpAnyK_done (by kernel_rfl) ?_
  simp only [List.drop_succ_cons, List.drop_zero]
  have SR4 := Lib.hid (src_under SR3.out B5.out)
  clear hHeld2 KS SR2 SR3 T2 T3 T4
  go_wp2_with fail
  refine (zero_any2 5 (by omega) (by omega) _ ra rn rc _ SR4.out).mono ?_
  rintro e v3 ⟨a3, n3, cap3, z3, p3, i3, rfl, hs3, he3, hr3, hg3, hf3, h03, hsm3, hx3⟩
  have hle3 : u8.heap.size ≤ v3.heap.size := he3.size
  have hbx : u3.heap.size < u8.heap.size := T5.out.f.box.lt
  have hne : ¬ u3.heap.size = W.heap.size := by have := SW.out; omega
  have KF := Lib.hid (T5.out.f.box.apart he3 (by have := SW.out; omega))
  have X3 := Lib.hid (show ∀ x, a3 = some x → 1 ≤ n3 → x.block ≠ u3.heap.size from fun x hx _ => by have := hx3 x hx; omega)
  have HB5 := Lib.hid (T5.out.below.trans (he3.below (Nat.le_refl _) T5.out.below.size))
  have R5 := Lib.hid hr3
  have G3 := Lib.hid (And.intro hg3 (And.intro hf3 hsm3))
  have bi := hg3.i0
  have bp := hg3.p1
  have bi2 : i3 ≤ 1000 := hsm3.1.2.2.1
  have bp2 : p3 ≤ 8 := hsm3.1.2.1
  clear hs3 he3 hr3 hg3 hf3 h03 hsm3 hx3 hle3 hne hbx
  obtain ⟨w4, hw4⟩ : ∃ w', ((v3.setCell ⟨u3.heap.size, 0, none⟩ (.slice a3 n3 cap3)).setCell ⟨u3.heap.size, 1, none⟩ (.int .i64 p3)).setCell ⟨u3.heap.size, 2, none⟩ (.int .i64 i3) = w' := ⟨_, rfl⟩
  have KF4 := Lib.hid (show Cur3 w4 u3.heap.size (.slice a3 n3 cap3) (.int .i64 p3) (.int .i64 i3) by rw [← hw4]; exact KF.out.set _ _ _)
  have R6 := Lib.hid (show RowZ w4 a3 n3 cap3 z3 by rw [← hw4]; exact ((R5.out.store X3.out _ _).store X3.out _ _).store X3.out _ _)
  have HB6 := Lib.hid (show Below W.heap.size W w4 by rw [← hw4]; exact below_b3 HB5.out (by have := SW.out; omega) _ _ _)
  have HW4 := Lib.hid hw4
  clear hw4
  obtain ⟨c0, c1, c2, f0, f1, f2⟩ := KF.out
  go_upto_region 11 with fail
  try rw [HW4.out]
  clear c0 c1 c2 f0 f1 f2
  obtain ⟨c0, c1, c2, f0, f1, f2⟩ := KF4.out
  obtain ⟨q, hq⟩ : ∃ q, i3 + (p3 : Int) = q := ⟨_, rfl⟩
  have hqw : IntKind.i64.wrap q = q := IntWalk.i64_in _ ⟨by omega, by omega⟩
  obtain ⟨w5, hw5⟩ : ∃ w', w4.setCell ⟨u3.heap.size, 2, none⟩ (.int .i64 q) = w' := ⟨_, rfl⟩
  have X5 := Lib.hid (show Bx w5 u3.heap.size a3 n3 cap3 p3 q z3 by rw [← hw5]; exact ⟨KF4.out.set2 _, R6.out.store X3.out _ _⟩)
  have HB7 := Lib.hid (show Below W.heap.size W w5 by rw [← hw5]; exact HB6.out.setCell (p := ⟨u3.heap.size, 2, none⟩) (by show W.heap.size ≤ u3.heap.size; have := SW.out; omega) _)
  have GQ := Lib.hid (show Good z3 p3 q ∧ 1 ≤ q ∧ Day (eC z3 p3 q) by
    rw [← hq]
    have g := more_good G3.out.1 G3.out.2.1 G3.out.2.2.1
    exact ⟨g, by omega, div_day g G3.out.2.1 G3.out.2.2.2⟩)
  have HW5 := Lib.hid hw5
  clear hw5
  go_upto_region 12 with fail
  try rw [HW5.out]
  clear c0 c1 c2 f0 f1 f2 hq
  go_wp2_with fail
  with_reducible refine (rflat7 0 (by omega) (by omega) _).mono ?_
  rintro e v6 ⟨a6, n6, cap6, z6, p6, i6, rfl, hb, hr, hf, hx⟩
  obtain ⟨w6, hw⟩ : ∃ w', v6.alloc (.cells #[.slice a6 n6 cap6, .int .i64 p6, .int .i64 i6] 24) = w' := ⟨_, rfl⟩
  have hz : Below w5.heap.size w5 w6 := by rw [← hw]; exact hb.trans ((below_box _).mono hb.size)
  have X6 := Lib.hid (X5.out.under hz)
  have HB8 := Lib.hid (HB7.out.trans (hz.mono HB7.out.size))
  have XZ := Lib.hid (show Bx w6 v6.heap.size a6 n6 cap6 p6 i6 z6 by rw [← hw]; exact Bx.new hr)
  have HFZ := Lib.hid hf
  have HW6 := Lib.hid hw
  clear hb hr hf hx hz hw
  have HZA := Lib.hid (show ∀ u, eC z6 p6 i6 u = some 0 from fun u => by rw [HFZ.out.2.1]; exact flat_all u)
  have HNO := Lib.hid (show eDec z3 p3 q z6 p6 i6 = fun _ => none from dec_grow GQ.out.1 G3.out.2.1 GQ.out.2.1 HZA.out)
  have HZ0 := Lib.hid (show atC z6 p6 i6 0 = 0 from (eC_bd HFZ.out.good (HZA.out 0)).2.2)
  have HZD := Lib.hid (show Day (eC z6 p6 i6) from day_some (F := fun _ => 0) (s := 0) (c := 0) (fun t _ => HZA.out t) (fun t _ => rfl))
  go_upto_region 13 with fail
  try rw [HW6.out]
  obtain ⟨c0, c1, c2, c3, c4, c5⟩ := X6.out.box
  obtain ⟨d0, d1, d2, d3, d4, d5⟩ := XZ.out.box
  go_wp2_with fail
  clear c0 c1 c2 c3 c4 c5 d0 d1 d2 d3 d4 d5
  with_reducible refine ((dof_day a3 n3 cap3 z3 p3 q GQ.out.1 a6 n6 cap6 z6 p6 i6 HFZ.out.good HZ0.out GQ.out.2.2 HZD.out _ X6.out.row XZ.out.row).mono fun _ _ h => h.ok (by rw [HNO.out]; exact inf_form.can)).mono ?_
  rintro e v7 ⟨a7, n7, cap7, z7, p7, i7, rfl, hb, hr, hf, hx⟩
  obtain ⟨w7, hw⟩ : ∃ w', v7.alloc (.cells #[.slice a7 n7 cap7, .int .i64 p7, .int .i64 i7] 24) = w' := ⟨_, rfl⟩
  have hz : Below w6.heap.size w6 w7 := by rw [← hw]; exact hb.trans ((below_box _).mono hb.size)
  have HB9 := Lib.hid (HB8.out.trans (hz.mono HB8.out.size))
  have X7 := Lib.hid (show Bx w7 v7.heap.size a7 n7 cap7 p7 i7 z7 by rw [← hw]; exact Bx.new hr)
  have HF7 := Lib.hid (show EForm z7 p7 i7 (fun _ => none) from HNO.out ▸ hf)
  have HV7 := Lib.hid (show atC z7 p7 i7 0 = 4611686018427387904 from form_at HF7.out 0)
  have HW7 := Lib.hid hw
  clear hb hr hf hx hz hw
  go_upto_region 14 with fail
  try rw [HW7.out]
  obtain ⟨c0, c1, c2, c3, c4, c5⟩ := X7.out.box
  go_wp2_with fail
  clear c0 c1 c2 c3 c4 c5
  with_reducible refine (rat_at a7 n7 cap7 z7 p7 i7 HF7.out.good 0 0 rfl (by omega) 4611686018427387904 HV7.out _ X7.out.row).mono ?_
  rintro e v8 ⟨rfl, hb⟩
  have HB10 := Lib.hid (HB9.out.trans (hb.mono HB9.out.size))
  clear hb
  go_wp2_with fail
  refine (awake8 _).mono ?_
  rintro e v9 ⟨rfl, hb⟩
  have HB11 := Lib.hid (HB10.out.trans (hb.mono HB10.out.size))
  clear hb
  go_wp2_with fail
  go_ret
  exact ⟨rfl, HB11.out⟩

end Go.Proofs.Ytcbocglakielnaa
