/- The walk of BucketCovers. By the verifier's side. -/
import Derived.Test.YtombgfpheiopgaaABkO
import Derived.Test.YtombgfpheiopgaaABkQ
namespace Go.Proofs.Ytombgfpheiopgaa
open Go.RowKit
set_option linter.unusedSimpArgs false
set_option linter.unusedVariables false

theorem new_nat {N D : Nat} (h1 : 1 ≤ D) (h2 : D ≤ 1000) (h3 : N ≤ 1000000) : ∃ S T : Nat, newF N D = ((S : Int), (T : Int), 0) ∧ okB S T = true ∧ S * D = N * T ∧ 1 ≤ T ∧ T ≤ D ∧ S ≤ N := by
  obtain ⟨sn, sd, he, hok, hx, hneg, _, hle, hde⟩ := newF_small N D (by omega) (by omega) (by omega)
  have h0 : 0 ≤ sn := by
    rcases Int.lt_or_le sn 0 with h | h
    · have := hneg.1 h; omega
    · exact h
  have o3 := (okF_iff _ _).1 hok
  obtain ⟨S, rfl⟩ := Int.eq_ofNat_of_zero_le h0
  obtain ⟨T, rfl⟩ := Int.eq_ofNat_of_zero_le (show 0 ≤ sd by omega)
  refine ⟨S, T, he, (okB_iff _ _).2 ⟨hok, h0⟩, ?_, by omega, by omega, by omega⟩
  have : ((S * D : Nat) : Int) = ((N * T : Nat) : Int) := by rw [Int.natCast_mul, Int.natCast_mul]; exact hx
  exact Int.ofNat.inj this
theorem lcmN_unique {z1 z2 : List Int} {p1 p2 : Nat} {i1 i2 : Int} (g1 : Good z1 p1 i1) (g2 : Good z2 p2 i2) {L M : Nat} (h : LcmN z1 p1 i1 z2 p2 i2 L) (k : LcmN z1 p1 i1 z2 p2 i2 M) : L = M := by
  obtain ⟨y1, q1, j1, y2, q2, j2, a1, a2, e⟩ := h
  obtain ⟨y1', q1', j1', y2', q2', j2', b1, b2, e'⟩ := k
  obtain ⟨_, r1, _⟩ := a1.canon g1 g1 b1 (fun _ => rfl)
  obtain ⟨_, r2, _⟩ := a2.canon g2 g2 b2 (fun _ => rfl)
  rw [← e, ← e', r1, r2]
/-- A small bucket's answer. -/
theorem pasA_small {bn bd rn rd : Nat} (h1 : okB bn bd = true) (h2 : okB rn rd = true) (b0 : bn ≤ 536870912) (r0 : rn ≤ 4194304) (r2 : rd ≤ 120) :
    ∃ (zs : List Int) (p : Nat) (inc : Int), pasA ⟨bn, bd, rn, rd⟩ = ⟨zs, p, inc, 0⟩ ∧ EForm zs p inc (tokE bn bd rn rd) := by
  have k1 := (okF_iff _ _).1 ((okB_iff _ _).1 h1).1
  have k2 := (okF_iff _ _).1 ((okB_iff _ _).1 h2).1
  have h := pasA_is ⟨bn, bd, rn, rd⟩
  obtain ⟨r, hr⟩ : ∃ r, pasA ⟨bn, bd, rn, rd⟩ = r := ⟨_, rfl⟩
  rw [hr] at h ⊢
  obtain ⟨zs, p, inc, c⟩ := r
  rcases h with ⟨_, ⟨hc, q, hq, hf⟩ | ⟨_, _, _, _, hn⟩⟩ | ⟨h, _⟩
  · refine ⟨zs, q, inc, ?_, hf⟩
    show (⟨zs, p, inc, c⟩ : Rs) = _
    rw [show c = 0 from hc, show p = (q : Int) from hq]
  · have hn' : ¬ ECan (tokE bn bd rn rd) := hn
    exact absurd (tok_can (by omega) (by omega) r2 b0 r0) hn'
  · have h' : 120 < rd := h
    omega
/-- The least of two small buckets. -/
theorem least_two {bn bd rn rd bn' bd' rn' rd' : Nat} (h1 : okB bn bd = true) (h2 : okB rn rd = true) (b0 : bn ≤ 1000) (r0 : rn ≤ 1000) (r2 : rd ≤ 10) (h1' : okB bn' bd' = true) (h2' : okB rn' rd' = true) (b0' : bn' ≤ 1000) (r0' : rn' ≤ 1000) (r2' : rd' ≤ 10) :
    ∃ (zs : List Int) (p inc c : Int), bleastA [⟨bn, bd, rn, rd⟩, ⟨bn', bd', rn', rd'⟩] = ⟨zs, p, inc, c⟩ ∧ EIs (fun t => omin (tokE bn bd rn rd t) (tokE bn' bd' rn' rd' t)) zs p inc c := by
  have k1 := (okF_iff _ _).1 ((okB_iff _ _).1 h1).1
  have k2 := (okF_iff _ _).1 ((okB_iff _ _).1 h2).1
  have k1' := (okF_iff _ _).1 ((okB_iff _ _).1 h1').1
  have k2' := (okF_iff _ _).1 ((okB_iff _ _).1 h2').1
  obtain ⟨z1, p1, i1, e1, f1⟩ := pasA_small h1 h2 (by omega) (by omega) (by omega)
  obtain ⟨z2, p2, i2, e2, f2⟩ := pasA_small h1' h2' (by omega) (by omega) (by omega)
  have hb : badL [⟨bn, bd, rn, rd⟩, ⟨bn', bd', rn', rd'⟩] = false := by
    unfold badL
    simp [Bkt.ok, h1, h2, h1', h2']
  have hl : bleastA [⟨bn, bd, rn, rd⟩, ⟨bn', bd', rn', rd'⟩] = nextA (pasA ⟨bn, bd, rn, rd⟩) ⟨bn', bd', rn', rd'⟩ := bleastA_fold (by simp) (by simp) hb
  have hm := minA_is ⟨z1, p1, i1, 0⟩ ⟨z2, p2, i2, 0⟩ p1 p2 rfl rfl f1.good f2.good
  rw [hl, e1, nextA_min rfl (by rw [e2]), e2]
  obtain ⟨t, ht⟩ : ∃ t, minA ⟨z1, p1, i1, 0⟩ ⟨z2, p2, i2, 0⟩ = t := ⟨_, rfl⟩
  rw [ht] at hm ⊢
  refine ⟨t.zs, t.p, t.inc, t.c, rfl, ?_⟩
  obtain ⟨L, hL, h | ⟨h, _⟩⟩ := hm
  · have he : eMin z1 p1 i1 z2 p2 i2 = fun t => omin (tokE bn bd rn rd t) (tokE bn' bd' rn' rd' t) := funext fun t => by unfold eMin; rw [f1.val, f2.val]
    rw [← he]; exact h.2
  · obtain ⟨M, hM, hm2⟩ := lcm_form f1 f2 (Nat.le_trans (tok_form f1 (by omega) (by omega)) r2) (Nat.le_trans (tok_form f2 (by omega) (by omega)) r2') (by omega)
    have := lcmN_unique f1.good f2.good hL hM
    omega
theorem rowB_two (w : World) (b c : Bkt) (t : TypeId) : RowB (w.alloc (.cells #[.int .i64 b.bn, .int .i64 b.bd, .int .i64 b.rn, .int .i64 b.rd, .int .i64 c.bn, .int .i64 c.bd, .int .i64 c.rn, .int .i64 c.rd] t)) w.heap.size 0 [b, c] := fun i d hc => by
  rcases i with _ | _ | i
  · cases hc; exact ⟨by go_simp, by go_simp, by go_simp, by go_simp⟩
  · cases hc; exact ⟨by go_simp, by go_simp, by go_simp, by go_simp⟩
  · simp at hc

set_option maxRecDepth 100000 in
set_option maxHeartbeats 6400000 in
theorem bucketCovers_walk (W : World) (a : Option Addr) (n cap : Nat) (hrow : RowAt W a n cap) :
    Calls Try.prog 13 #[.slice a n cap] W fun e w' => e = .returned (.bool true) ∧ Below W.heap.size W w' := by
  have HR := Lib.hid hrow
  clear hrow
  go_enter Try.func13, Try.ntmps13
  go_wp2_with fail
  refine (new_any a n cap _ HR.out).mono ?_
  rintro e u1 ⟨rfl, hb1, hz1, ra, rn, rc, hs1⟩
  have HB1 := Lib.hid hb1
  have HS1 := Lib.hid hs1
  have Z1 := Lib.hid (show W.heap.size < u1.heap.size by omega)
  have HD := Lib.hid (Held.start hs1)
  clear hb1 hz1 hs1
  go_wp2_with fail
  refine (n_any 30 (by omega) (by omega) _ ra rn rc _ (HD.out.at HS1.out)).mono ?_
  rintro e u2 ⟨r, ⟨r0, r1⟩, rfl, hs, he⟩
  obtain ⟨st, rfl⟩ := Int.eq_ofNat_of_zero_le r0
  have Nst := Lib.hid (show st < 30 by omega)
  have HD := Lib.hid (HD.out.call hs he.apart)
  clear hs he r0 r1
  go_wp2_with fail
  refine (n_any 6 (by omega) (by omega) _ ra rn rc _ (HD.out.at HS1.out)).mono ?_
  rintro e u3 ⟨r, ⟨r0, r1⟩, rfl, hs, he⟩
  obtain ⟨ev0, rfl⟩ := Int.eq_ofNat_of_zero_le r0
  have Nev0 := Lib.hid (show ev0 < 6 by omega)
  have HD := Lib.hid (HD.out.call hs he.apart)
  clear hs he r0 r1
  obtain ⟨ev, hev⟩ : ∃ ev : Nat, ev0 + 1 = ev := ⟨_, rfl⟩
  have hevi : (1 : Int) + (ev0 : Int) = (ev : Int) := by omega
  have hevw : IntKind.i64.wrap (ev : Int) = (ev : Int) := IntWalk.i64_in _ ⟨by omega, by have := Nev0.out; omega⟩
  have Nev := Lib.hid (show 1 ≤ ev ∧ ev ≤ 6 by have := Nev0.out; omega)
  clear hev
  go_wp2_with fail
  refine (n_any 9 (by omega) (by omega) _ ra rn rc _ (HD.out.at HS1.out)).mono ?_
  rintro e u4 ⟨r, ⟨r0, r1⟩, rfl, hs, he⟩
  obtain ⟨ah, rfl⟩ := Int.eq_ofNat_of_zero_le r0
  have Nah := Lib.hid (show ah < 9 by omega)
  have HD := Lib.hid (HD.out.call hs he.apart)
  clear hs he r0 r1
  obtain ⟨u5, hw⟩ : ∃ w', u4.alloc (.cells #[.int .i64 st, .int .i64 ev, .int .i64 ah] 76) = w' := ⟨_, rfl⟩
  have hz : Below u4.heap.size u4 u5 := by rw [← hw]; exact below_box _
  have hsS : W.heap.size < u4.heap.size := HD.out.lt
  have NES := Lib.hid (show u4.heap.size ≠ W.heap.size by omega)
  have XS := Lib.hid (show Cur3 u5 u4.heap.size (.int .i64 st) (.int .i64 ev) (.int .i64 ah) by rw [← hw]; exact Cur3.new _ _ _ _ _)
  have HD := Lib.hid (HD.out.below hz)
  have HW := Lib.hid hw
  clear hw hz hsS
  go_upto_region 3 with fail
  try rw [HW.out]
  obtain ⟨BS, hB⟩ : ∃ B, u4.heap.size = B := ⟨_, rfl⟩
  rw [hB] at XS NES
  try rw [hB]
  clear HW hB
  clear hevi hevw
  obtain ⟨c0, c1, c2, c3, c4, c5⟩ := XS.out
  go_wp2_with fail
  clear c0 c1 c2 c3 c4 c5
  have hsz : W.heap.size < u5.heap.size := HD.out.lt
  refine (steps_ok (st := st) (ev := ev) (ah := ah) (by have := Nst.out; omega) Nev.out.1 (by have := Nev.out; omega) (by have := Nah.out; omega) _).mono ?_
  rintro e u6 ⟨af, nf, capf, zf, pf, jf, rfl, hb, hr, hf, hx⟩
  have Ff := Lib.hid hf
  have HD := Lib.hid (HD.out.below hb)
  have XS := Lib.hid (XS.out.below hb)
  clear hb hf
  obtain ⟨u7, hw⟩ : ∃ w', u6.alloc (.cells #[.slice af nf capf, .int .i64 pf, .int .i64 jf] 24) = w' := ⟨_, rfl⟩
  have hz : Below u6.heap.size u6 u7 := by rw [← hw]; exact below_box _
  have hsf : W.heap.size < u6.heap.size := HD.out.lt
  have NEf := Lib.hid (show u6.heap.size ≠ W.heap.size ∧ ∀ y, af = some y → ¬ y.block = W.heap.size from ⟨by omega, fun y hy => by have h1 := hx y hy; have h2 := hsz; omega⟩)
  have XS := Lib.hid (XS.out.below hz)
  have Xf := Lib.hid (show Bx u7 u6.heap.size af nf capf pf jf zf by rw [← hw]; exact Bx.new hr)
  have HD := Lib.hid (HD.out.below hz)
  have HW := Lib.hid hw
  clear hw hz hsf hr hx hsz
  go_upto_region 4 with fail
  try rw [HW.out]
  obtain ⟨Bf, hB⟩ : ∃ B, u6.heap.size = B := ⟨_, rfl⟩
  rw [hB] at Xf NEf
  try rw [hB]
  clear HW hB
  obtain ⟨sm, hsm⟩ : ∃ k : Nat, ev + ah = k := ⟨_, rfl⟩
  have hsmi : (ev : Int) + (ah : Int) = (sm : Int) := by omega
  have hsmb : sm ≤ 14 := by have := Nev.out; have := Nah.out; omega
  have hsmw : IntKind.i64.wrap (sm : Int) = (sm : Int) := IntWalk.i64_in _ ⟨by omega, by omega⟩
  obtain ⟨pr, hpr⟩ : ∃ k : Nat, st * sm = k := ⟨_, rfl⟩
  have hpri : (st : Int) * (sm : Int) = (pr : Int) := by rw [← hpr]; exact (Int.natCast_mul st sm).symm
  have hprb : pr ≤ 30 * 14 := by rw [← hpr]; exact Nat.mul_le_mul (by have := Nst.out; omega) hsmb
  have hprw : IntKind.i64.wrap (pr : Int) = (pr : Int) := IntWalk.i64_in _ ⟨by omega, by omega⟩
  obtain ⟨bn, bd, he1, ho1, hx1, hb1, hb2, hb3⟩ := new_nat (N := pr) (D := ev) Nev.out.1 (by have := Nev.out; omega) (by omega)
  obtain ⟨qn, qd, he2, ho2, hx2, hq1, hq2, hq3⟩ := new_nat (N := st) (D := ev) Nev.out.1 (by have := Nev.out; omega) (by have := Nst.out; omega)
  have HE := Lib.hid (And.intro he1 he2)
  have OB := Lib.hid (show (okB bn bd = true ∧ bn ≤ 420) ∧ (okB qn qd = true ∧ qn ≤ 30 ∧ qd ≤ 6) from ⟨⟨ho1, by omega⟩, ho2, by have := Nst.out; omega, by have := Nev.out; omega⟩)
  have HST := Lib.hid (fun k => stair_tok (st := st) (ev := ev) (ah := ah) (B := bn) (D := bd) (R := qn) (E := qd) Nev.out.1 hb1 hq1 (by rw [hsm, hpr, ← hx1]) hx2.symm k)
  have HPB := Lib.hid (show pr ≤ 420 by omega)
  clear he1 he2 ho1 ho2 hx1 hx2 hb1 hb2 hb3 hq1 hq2 hq3 hsm hpr hsmb hprb
  obtain ⟨c0, c1, c2, c3, c4, c5⟩ := XS.out
  go_wp2_with fail
  clear c0 c1 c2 c3 c4 c5
  refine (rnew_all pr ev ⟨by omega, by have := HPB.out; omega⟩ ⟨by omega, by have := Nev.out; omega⟩ _).mono ?_
  rintro e u8 ⟨rfl, hb⟩
  rw [HE.out.1]
  have HD := Lib.hid (HD.out.below hb)
  have XS := Lib.hid (XS.out.below hb)
  have Xf := Lib.hid (Xf.out.under hb)
  clear hb
  obtain ⟨u9, hw⟩ : ∃ w', u8.alloc (.cells #[.int .i64 bn, .int .i64 bd] 72) = w' := ⟨_, rfl⟩
  have hz : Below u8.heap.size u8 u9 := by rw [← hw]; exact below_box _
  have hsP : W.heap.size < u8.heap.size := HD.out.lt
  have NEP := Lib.hid (show u8.heap.size ≠ W.heap.size by omega)
  have XS := Lib.hid (XS.out.below hz)
  have Xf := Lib.hid (Xf.out.under hz)
  have XP := Lib.hid (show Box u9 u8.heap.size bn bd by rw [← hw]; exact Box.new _ _ _ _)
  have HD := Lib.hid (HD.out.below hz)
  have HW := Lib.hid hw
  clear hw hz hsP
  go_upto_region 5 with fail
  try rw [HW.out]
  obtain ⟨BP, hB⟩ : ∃ B, u8.heap.size = B := ⟨_, rfl⟩
  rw [hB] at XP NEP
  try rw [hB]
  clear HW hB
  clear hsmi hsmw hpri hprw
  obtain ⟨c0, c1, c2, c3, c4, c5⟩ := XS.out
  go_wp2_with fail
  clear c0 c1 c2 c3 c4 c5
  refine (rnew_all st ev ⟨by omega, by have := Nst.out; omega⟩ ⟨by omega, by have := Nev.out; omega⟩ _).mono ?_
  rintro e u10 ⟨rfl, hb⟩
  rw [HE.out.2]
  have HD := Lib.hid (HD.out.below hb)
  have XS := Lib.hid (XS.out.below hb)
  have Xf := Lib.hid (Xf.out.under hb)
  have XP := Lib.hid (XP.out.below hb)
  clear hb
  obtain ⟨u11, hw⟩ : ∃ w', u10.alloc (.cells #[.int .i64 qn, .int .i64 qd] 72) = w' := ⟨_, rfl⟩
  have hz : Below u10.heap.size u10 u11 := by rw [← hw]; exact below_box _
  have hsQ : W.heap.size < u10.heap.size := HD.out.lt
  have NEQ := Lib.hid (show u10.heap.size ≠ W.heap.size by omega)
  have XS := Lib.hid (XS.out.below hz)
  have Xf := Lib.hid (Xf.out.under hz)
  have XP := Lib.hid (XP.out.below hz)
  have XQ := Lib.hid (show Box u11 u10.heap.size qn qd by rw [← hw]; exact Box.new _ _ _ _)
  have HD := Lib.hid (HD.out.below hz)
  have HW := Lib.hid hw
  clear hw hz hsQ
  go_upto_region 6 with fail
  try rw [HW.out]
  obtain ⟨BQ, hB⟩ : ∃ B, u10.heap.size = B := ⟨_, rfl⟩
  rw [hB] at XQ NEQ
  try rw [hB]
  clear HW hB
  obtain ⟨c0, c1, c2, c3⟩ := XP.out
  obtain ⟨d0, d1, d2, d3⟩ := XQ.out
  go_wp2_with fail
  clear c0 c1 c2 c3 d0 d1 d2 d3
  have hsz : W.heap.size < u11.heap.size := HD.out.lt
  refine (token_ok OB.out.1.1 OB.out.2.1 (by have := OB.out; omega) (by have := OB.out; omega) (by have := OB.out; omega) _).mono ?_
  rintro e u12 ⟨ag, ng, capg, zg, pg, jg, rfl, hb, hr, hf, hx⟩
  have Fg := Lib.hid hf
  have HD := Lib.hid (HD.out.below hb)
  have XS := Lib.hid (XS.out.below hb)
  have Xf := Lib.hid (Xf.out.under hb)
  have XP := Lib.hid (XP.out.below hb)
  have XQ := Lib.hid (XQ.out.below hb)
  clear hb hf
  obtain ⟨u13, hw⟩ : ∃ w', u12.alloc (.cells #[.slice ag ng capg, .int .i64 pg, .int .i64 jg] 24) = w' := ⟨_, rfl⟩
  have hz : Below u12.heap.size u12 u13 := by rw [← hw]; exact below_box _
  have hsg : W.heap.size < u12.heap.size := HD.out.lt
  have NEg := Lib.hid (show u12.heap.size ≠ W.heap.size ∧ ∀ y, ag = some y → ¬ y.block = W.heap.size from ⟨by omega, fun y hy => by have h1 := hx y hy; have h2 := hsz; omega⟩)
  have XS := Lib.hid (XS.out.below hz)
  have Xf := Lib.hid (Xf.out.under hz)
  have XP := Lib.hid (XP.out.below hz)
  have XQ := Lib.hid (XQ.out.below hz)
  have Xg := Lib.hid (show Bx u13 u12.heap.size ag ng capg pg jg zg by rw [← hw]; exact Bx.new hr)
  have HD := Lib.hid (HD.out.below hz)
  have HW := Lib.hid hw
  clear hw hz hsg hr hx hsz
  go_upto_region 7 with fail
  try rw [HW.out]
  obtain ⟨Bg, hB⟩ : ∃ B, u12.heap.size = B := ⟨_, rfl⟩
  rw [hB] at Xg NEg
  try rw [hB]
  clear HW hB
  obtain ⟨c0, c1, c2, c3, c4, c5⟩ := Xf.out.box
  obtain ⟨d0, d1, d2, d3, d4, d5⟩ := Xg.out.box
  go_wp2_with fail
  clear c0 c1 c2 c3 c4 c5 d0 d1 d2 d3 d4 d5
  refine (ratMost_yes _ _ _ _ _ _ Ff.out.good _ _ _ _ _ _ Fg.out.good (form_ole Ff.out Fg.out (fun t => ole_some (by
    have := HST.out t
    show ((stairN st ev ah t : Nat) : Int) ≤ (tokN bn bd qn qd t : Nat)
    omega))) _ Xf.out.row Xg.out.row).mono ?_
  rintro e u14 ⟨rfl, hb⟩
  have HD := Lib.hid (HD.out.below hb)
  have XS := Lib.hid (XS.out.below hb)
  have Xf := Lib.hid (Xf.out.under hb)
  have XP := Lib.hid (XP.out.below hb)
  have XQ := Lib.hid (XQ.out.below hb)
  have Xg := Lib.hid (Xg.out.under hb)
  clear hb
  obtain ⟨vv, hvv⟩ : ∃ v, atC zf pf jf 1 = v := ⟨_, rfl⟩
  have HVV := Lib.hid hvv
  have hge : ¬ vv < (st : Int) := by
    have h1 : atC zf pf jf 1 = stairF st ev ah 1 := Ff.out.at rfl
    have h2 := stair_one (st := st) (ah := ah) Nev.out.1
    rw [← hvv, h1]; unfold stairF; omega
  have hged : decide (vv < (st : Int)) = false := decide_eq_false hge
  have hgee : decide ((st : Int) ≤ vv) = true := decide_eq_true (by omega)
  clear hvv
  obtain ⟨c0, c1, c2, c3, c4, c5⟩ := Xf.out.box
  go_wp2_with fail
  clear c0 c1 c2 c3 c4 c5
  refine (value_at af nf capf zf pf jf Ff.out.good 1 1 rfl (by omega) vv HVV.out _ Xf.out.row).mono ?_
  rintro e u15 ⟨rfl, hb⟩
  have HD := Lib.hid (HD.out.below hb)
  have XS := Lib.hid (XS.out.below hb)
  have Xf := Lib.hid (Xf.out.under hb)
  have XP := Lib.hid (XP.out.below hb)
  have XQ := Lib.hid (XQ.out.below hb)
  have Xg := Lib.hid (Xg.out.under hb)
  clear hb
  go_wp2_with fail
  refine (frac_any 30 2 (by omega) (by omega) (by omega) (by omega) _ ra rn rc _ (HD.out.at HS1.out)).mono ?_
  rintro e u16 ⟨x1, y1, hp, rfl, hs, ha⟩
  obtain ⟨cn, cd, rfl, rfl, f0, f1, f2, f3⟩ := frac_nat hp (by omega) (by omega)
  have Ocn := Lib.hid (show okB cn cd = true ∧ cn ≤ 60 ∧ 1 ≤ cd ∧ cd ≤ 2 from ⟨f0, by omega, f2, by omega⟩)
  have HD := Lib.hid (HD.out.call hs ha)
  have XS := Lib.hid (XS.out.apart ha NES.out)
  have Xf := Lib.hid (show Bx u16 Bf af nf capf pf jf zf from ⟨Xf.out.box.apart ha NEf.out.1, Xf.out.row.apart ha NEf.out.2⟩)
  have XP := Lib.hid (XP.out.apart ha NEP.out)
  have XQ := Lib.hid (XQ.out.apart ha NEQ.out)
  have Xg := Lib.hid (show Bx u16 Bg ag ng capg pg jg zg from ⟨Xg.out.box.apart ha NEg.out.1, Xg.out.row.apart ha NEg.out.2⟩)
  clear hs ha hp f0 f1 f2 f3
  go_wp2_with fail
  refine (frac_any 6 2 (by omega) (by omega) (by omega) (by omega) _ ra rn rc _ (HD.out.at HS1.out)).mono ?_
  rintro e u17 ⟨x1, y1, hp, rfl, hs, ha⟩
  obtain ⟨dn, dd, rfl, rfl, f0, f1, f2, f3⟩ := frac_nat hp (by omega) (by omega)
  have Odn := Lib.hid (show okB dn dd = true ∧ dn ≤ 12 ∧ 1 ≤ dd ∧ dd ≤ 2 from ⟨f0, by omega, f2, by omega⟩)
  have HD := Lib.hid (HD.out.call hs ha)
  have XS := Lib.hid (XS.out.apart ha NES.out)
  have Xf := Lib.hid (show Bx u17 Bf af nf capf pf jf zf from ⟨Xf.out.box.apart ha NEf.out.1, Xf.out.row.apart ha NEf.out.2⟩)
  have XP := Lib.hid (XP.out.apart ha NEP.out)
  have XQ := Lib.hid (XQ.out.apart ha NEQ.out)
  have Xg := Lib.hid (show Bx u17 Bg ag ng capg pg jg zg from ⟨Xg.out.box.apart ha NEg.out.1, Xg.out.row.apart ha NEg.out.2⟩)
  clear hs ha hp f0 f1 f2 f3
  go_wp2_with fail
  refine (frac_any 30 2 (by omega) (by omega) (by omega) (by omega) _ ra rn rc _ (HD.out.at HS1.out)).mono ?_
  rintro e u18 ⟨x1, y1, hp, rfl, hs, ha⟩
  obtain ⟨en, ed, rfl, rfl, f0, f1, f2, f3⟩ := frac_nat hp (by omega) (by omega)
  have Oen := Lib.hid (show okB en ed = true ∧ en ≤ 60 ∧ 1 ≤ ed ∧ ed ≤ 2 from ⟨f0, by omega, f2, by omega⟩)
  have HD := Lib.hid (HD.out.call hs ha)
  have XS := Lib.hid (XS.out.apart ha NES.out)
  have Xf := Lib.hid (show Bx u18 Bf af nf capf pf jf zf from ⟨Xf.out.box.apart ha NEf.out.1, Xf.out.row.apart ha NEf.out.2⟩)
  have XP := Lib.hid (XP.out.apart ha NEP.out)
  have XQ := Lib.hid (XQ.out.apart ha NEQ.out)
  have Xg := Lib.hid (show Bx u18 Bg ag ng capg pg jg zg from ⟨Xg.out.box.apart ha NEg.out.1, Xg.out.row.apart ha NEg.out.2⟩)
  clear hs ha hp f0 f1 f2 f3
  go_wp2_with fail
  refine (frac_any 6 3 (by omega) (by omega) (by omega) (by omega) _ ra rn rc _ (HD.out.at HS1.out)).mono ?_
  rintro e u19 ⟨x1, y1, hp, rfl, hs, ha⟩
  obtain ⟨gn, gd, rfl, rfl, f0, f1, f2, f3⟩ := frac_nat hp (by omega) (by omega)
  have Ogn := Lib.hid (show okB gn gd = true ∧ gn ≤ 18 ∧ 1 ≤ gd ∧ gd ≤ 3 from ⟨f0, by omega, f2, by omega⟩)
  have HD := Lib.hid (HD.out.call hs ha)
  have XS := Lib.hid (XS.out.apart ha NES.out)
  have Xf := Lib.hid (show Bx u19 Bf af nf capf pf jf zf from ⟨Xf.out.box.apart ha NEf.out.1, Xf.out.row.apart ha NEf.out.2⟩)
  have XP := Lib.hid (XP.out.apart ha NEP.out)
  have XQ := Lib.hid (XQ.out.apart ha NEQ.out)
  have Xg := Lib.hid (show Bx u19 Bg ag ng capg pg jg zg from ⟨Xg.out.box.apart ha NEg.out.1, Xg.out.row.apart ha NEg.out.2⟩)
  clear hs ha hp f0 f1 f2 f3
  obtain ⟨zm, pm, jm, cm, hla, hei⟩ := least_two Ocn.out.1 Odn.out.1 (by have := Ocn.out; omega) (by have := Odn.out; omega) (by have := Odn.out; omega) Oen.out.1 Ogn.out.1 (by have := Oen.out; omega) (by have := Ogn.out; omega) (by have := Ogn.out; omega)
  have HLA := Lib.hid (And.intro hla hei)
  obtain ⟨u20, hw⟩ : ∃ w', u19.alloc (.cells #[.int .i64 cn, .int .i64 cd, .int .i64 dn, .int .i64 dd, .int .i64 en, .int .i64 ed, .int .i64 gn, .int .i64 gd] 74) = w' := ⟨_, rfl⟩
  have hz : Below u19.heap.size u19 u20 := by rw [← hw]; exact below_box _
  have HD := Lib.hid (HD.out.below hz)
  have XS := Lib.hid (XS.out.below hz)
  have Xf := Lib.hid (Xf.out.under hz)
  have XP := Lib.hid (XP.out.below hz)
  have XQ := Lib.hid (XQ.out.below hz)
  have Xg := Lib.hid (Xg.out.under hz)
  have XT := Lib.hid (show RowB u20 u19.heap.size 0 [⟨cn, cd, dn, dd⟩, ⟨en, ed, gn, gd⟩] by rw [← hw]; exact rowB_two u19 ⟨cn, cd, dn, dd⟩ ⟨en, ed, gn, gd⟩ _)
  have HW := Lib.hid hw
  clear hw hz hla hei
  go_upto_region 11 with fail
  try rw [HW.out]
  obtain ⟨BT, hB⟩ : ∃ B, u19.heap.size = B := ⟨_, rfl⟩
  rw [hB] at XT
  try rw [hB]
  clear HW hB Xf Xg XP XQ NEf NEg NEP NEQ
  go_wp2_with fail
  refine (least_any BT 2 2 _ rfl (by omega) (by omega) _ XT.out).mono ?_
  rintro e y1 ⟨am, nm, capm, rfl, hb, hr, hx⟩
  rw [HLA.out.1] at hr ⊢
  obtain ⟨y2, hw⟩ : ∃ w', y1.alloc (.cells #[.slice am nm capm, .int .i64 pm, .int .i64 jm] 24) = w' := ⟨_, rfl⟩
  have hz : Below u20.heap.size u20 y2 := by rw [← hw]; exact hb.trans ((below_box _).mono hb.size)
  have HD := Lib.hid (HD.out.below hz)
  have XT := Lib.hid (XT.out.under hz)
  have XS := Lib.hid (XS.out.below hz)
  have XM := Lib.hid (show Cur3 y2 y1.heap.size (.slice am nm capm) (.int .i64 pm) (.int .i64 jm) by rw [← hw]; exact Cur3.new _ _ _ _ _)
  have XR := Lib.hid (show RowZ y2 am nm capm zm by rw [← hw]; exact RowZ.under hr (below_box _))
  have HW := Lib.hid hw
  clear hw hz hb hr hx
  go_upto_region 12 with fail
  try rw [HW.out]
  obtain ⟨BM, hB⟩ : ∃ B, y1.heap.size = B := ⟨_, rfl⟩
  rw [hB] at XM
  try rw [hB]
  clear HW hB
  have HEI := Lib.hid HLA.out.2
  clear HLA
  rcases HEI.out with ⟨rfl, q, rfl, hf⟩ | ⟨rfl, _, _, _, _⟩
  rotate_left
  · clear HEI
    obtain ⟨s0, s1, s2, s3, s4, s5⟩ := XS.out
    go_wp2_with fail
    clear s0 s1 s2 s3 s4 s5
    refine (awake11 _).mono ?_
    rintro e y3 ⟨rfl, hb⟩
    have HD := Lib.hid (HD.out.below hb)
    clear hb
    go_wp2_with fail
    go_ret
    exact ⟨rfl, HB1.out.trans (HD.out.ap.below (Nat.le_refl _) HB1.out.size)⟩
  have FM := Lib.hid hf
  clear hf HEI
  obtain ⟨s0, s1, s2, s3, s4, s5⟩ := XS.out
  go_wp2_with fail
  clear s0 s1 s2 s3 s4 s5
  go_loopw [128] (fun s wx => ∃ k : Nat, s = .int .i64 k ∧ k ≤ 2 ∧ Hid (Below y2.heap.size y2 wx)) (fun s _ => 2 - (intOf s).toNat)
  case atStart => exact ⟨0, by go_num, by omega, Below.refl _ _⟩
  case round =>
    obtain ⟨k, rfl, hk, HWB⟩ := hrel
    obtain ⟨z1, rfl⟩ : ∃ u : World, u = wr := ⟨_, rfl⟩
    by_cases h2 : k = 2
    · subst h2
      go_wp2_with fail
      refine (awake11 _).mono ?_
      rintro e z2 ⟨rfl, hb⟩
      have HD2 := Lib.hid ((HD.out.below HWB.out).below hb)
      clear hb
      go_wp2_with fail
      go_ret
      exact ⟨rfl, HB1.out.trans (HD2.out.ap.below (Nat.le_refl _) HB1.out.size)⟩
    · have hk01 : k = 0 ∨ k = 1 := by omega
      rcases hk01 with rfl | rfl
      · obtain ⟨c0, c1, c2, c3⟩ := (XT.out.under HWB.out).at0 (i := 0) rfl
        dsimp only at c0 c1 c2 c3
        obtain ⟨z2, hw⟩ : ∃ w', z1.alloc (.cells #[.int .i64 cn, .int .i64 cd, .int .i64 dn, .int .i64 dd] 74) = w' := ⟨_, rfl⟩
        have hz : Below z1.heap.size z1 z2 := by rw [← hw]; exact below_box _
        have HW2 := Lib.hid (HWB.out.trans (hz.mono HWB.out.size))
        have XX := Lib.hid (show Bk4 z2 z1.heap.size cn cd dn dd by rw [← hw]; exact Bk4.new _ _ _ _ _ _)
        have HW := Lib.hid hw
        clear hw hz
        go_upto_region 17 with fail
        try rw [HW.out]
        clear HW c0 c1 c2 c3
        obtain ⟨c0, c1, c2, c3⟩ := XX.out
        go_wp2_with fail
        clear c0 c1 c2 c3
        refine (token_ok Ocn.out.1 Odn.out.1 (by have := Ocn.out; omega) (by have := Odn.out; omega) (by have := Odn.out; omega) _).mono ?_
        rintro e z3 ⟨ax, nx, capx, zx, px, jx, rfl, hb, hr, hf, hx⟩
        obtain ⟨z4, hw⟩ : ∃ w', z3.alloc (.cells #[.slice ax nx capx, .int .i64 px, .int .i64 jx] 24) = w' := ⟨_, rfl⟩
        have hz : Below z2.heap.size z2 z4 := by rw [← hw]; exact hb.trans ((below_box _).mono hb.size)
        have HW4 := Lib.hid (HW2.out.trans (hz.mono HW2.out.size))
        have Fx := Lib.hid hf
        have YX := Lib.hid (show Bx z4 z3.heap.size ax nx capx px jx zx by rw [← hw]; exact Bx.new hr)
        have HW := Lib.hid hw
        clear hb hr hf hx hw hz
        go_upto_region 18 with fail
        try rw [HW.out]
        obtain ⟨BX, hB⟩ : ∃ B, z3.heap.size = B := ⟨_, rfl⟩
        rw [hB] at YX
        try rw [hB]
        clear HW hB
        have XM4 := Lib.hid (XM.out.below HW4.out)
        have XR4 := Lib.hid (XR.out.under HW4.out)
        obtain ⟨c0, c1, c2, c3, c4, c5⟩ := XM4.out
        obtain ⟨d0, d1, d2, d3, d4, d5⟩ := YX.out.box
        go_wp2_with fail
        clear c0 c1 c2 c3 c4 c5 d0 d1 d2 d3 d4 d5
        refine (ratMost_yes _ _ _ _ _ _ FM.out.good _ _ _ _ _ _ Fx.out.good (form_ole FM.out Fx.out (fun t => ole_omin_l _ _)) _ XR4.out YX.out.row).mono ?_
        rintro e z5 ⟨rfl, hb⟩
        have HW5 := Lib.hid (HW4.out.trans (hb.mono HW4.out.size))
        clear hb
        go_wp2_with fail
        go_roundw
        case rel => exact ⟨1, by go_num, by omega, HW5⟩
        case measure => simp [intOf]
      · obtain ⟨c0, c1, c2, c3⟩ := (XT.out.under HWB.out).at0 (i := 1) rfl
        dsimp only at c0 c1 c2 c3
        obtain ⟨z2, hw⟩ : ∃ w', z1.alloc (.cells #[.int .i64 en, .int .i64 ed, .int .i64 gn, .int .i64 gd] 74) = w' := ⟨_, rfl⟩
        have hz : Below z1.heap.size z1 z2 := by rw [← hw]; exact below_box _
        have HW2 := Lib.hid (HWB.out.trans (hz.mono HWB.out.size))
        have XX := Lib.hid (show Bk4 z2 z1.heap.size en ed gn gd by rw [← hw]; exact Bk4.new _ _ _ _ _ _)
        have HW := Lib.hid hw
        clear hw hz
        go_upto_region 17 with fail
        try rw [HW.out]
        clear HW c0 c1 c2 c3
        obtain ⟨c0, c1, c2, c3⟩ := XX.out
        go_wp2_with fail
        clear c0 c1 c2 c3
        refine (token_ok Oen.out.1 Ogn.out.1 (by have := Oen.out; omega) (by have := Ogn.out; omega) (by have := Ogn.out; omega) _).mono ?_
        rintro e z3 ⟨ax, nx, capx, zx, px, jx, rfl, hb, hr, hf, hx⟩
        obtain ⟨z4, hw⟩ : ∃ w', z3.alloc (.cells #[.slice ax nx capx, .int .i64 px, .int .i64 jx] 24) = w' := ⟨_, rfl⟩
        have hz : Below z2.heap.size z2 z4 := by rw [← hw]; exact hb.trans ((below_box _).mono hb.size)
        have HW4 := Lib.hid (HW2.out.trans (hz.mono HW2.out.size))
        have Fx := Lib.hid hf
        have YX := Lib.hid (show Bx z4 z3.heap.size ax nx capx px jx zx by rw [← hw]; exact Bx.new hr)
        have HW := Lib.hid hw
        clear hb hr hf hx hw hz
        go_upto_region 18 with fail
        try rw [HW.out]
        obtain ⟨BX, hB⟩ : ∃ B, z3.heap.size = B := ⟨_, rfl⟩
        rw [hB] at YX
        try rw [hB]
        clear HW hB
        have XM4 := Lib.hid (XM.out.below HW4.out)
        have XR4 := Lib.hid (XR.out.under HW4.out)
        obtain ⟨c0, c1, c2, c3, c4, c5⟩ := XM4.out
        obtain ⟨d0, d1, d2, d3, d4, d5⟩ := YX.out.box
        go_wp2_with fail
        clear c0 c1 c2 c3 c4 c5 d0 d1 d2 d3 d4 d5
        refine (ratMost_yes _ _ _ _ _ _ FM.out.good _ _ _ _ _ _ Fx.out.good (form_ole FM.out Fx.out (fun t => ole_omin_r _ _)) _ XR4.out YX.out.row).mono ?_
        rintro e z5 ⟨rfl, hb⟩
        have HW5 := Lib.hid (HW4.out.trans (hb.mono HW4.out.size))
        clear hb
        go_wp2_with fail
        go_roundw
        case rel => exact ⟨2, by go_num, by omega, HW5⟩
        case measure => simp [intOf]

end Go.Proofs.Ytombgfpheiopgaa
