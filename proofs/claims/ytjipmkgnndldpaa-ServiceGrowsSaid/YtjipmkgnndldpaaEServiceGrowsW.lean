/- The walk of ServiceGrows. By the verifier's side. -/
import Derived.Test.YtjipmkgnndldpaaESvP
import Derived.Test.YtjipmkgnndldpaaESvHSvI
import Derived.Test.YtjipmkgnndldpaaEBkQ
namespace Go.Proofs.Ytjipmkgnndldpaa
open Go.RowKit
set_option linter.unusedSimpArgs false
set_option linter.unusedVariables false

theorem foldM_most {rs : List Rs} (hA : AllC rs) : ∀ k, k < rs.length → (foldM rs k).c = 0 → ∃ q : Nat, (foldM rs k).p = q ∧ Good (foldM rs k).zs q (foldM rs k).inc ∧ ∀ (i : Nat) (r : Rs) (q' : Nat), i ≤ k → rs[i]? = some r → r.p = q' → ∀ t, ole (eC r.zs q' r.inc t) (eC (foldM rs k).zs q (foldM rs k).inc t)
  | 0, hk, _ => by
    obtain ⟨_, q, hq, g⟩ := hA.getD hk
    refine ⟨q, hq, g, fun i r q' hi hr hq' t => ?_⟩
    obtain rfl : i = 0 := by omega
    have e : foldM rs 0 = r := by unfold foldM; rw [List.getD_eq_getElem?_getD, hr]; rfl
    rw [e]
    have e2 : foldM rs 0 = rs.getD 0 Rs.lim := rfl
    rw [← e2, e] at hq
    obtain rfl : q' = q := by rw [hq] at hq'; exact (Int.ofNat.inj hq').symm
    exact fun y hy => ⟨y, hy, Int.le_refl _⟩
  | k + 1, hk, hc => by
    have hs := hA.getD hk
    obtain ⟨s, hse⟩ : ∃ s, rs.getD (k + 1) Rs.lim = s := ⟨_, rfl⟩
    rw [hse] at hs
    obtain ⟨_, q2, hq2, g2⟩ := hs
    by_cases h0 : (foldM rs k).c = 0
    · obtain ⟨p, hp, g1, hall⟩ := foldM_most hA k (by omega) h0
      have e : foldM rs (k + 1) = maxA (foldM rs k) s := by
        show (if (foldM rs k).c = 0 then maxA (foldM rs k) (rs.getD (k + 1) Rs.lim) else Rs.lim) = _
        rw [if_pos h0, hse]
      rw [e] at hc ⊢
      obtain ⟨L, _, ⟨_, ⟨_, q, hq, hf⟩ | ⟨h3, _⟩⟩ | ⟨_, h3, _⟩⟩ := maxA_is (foldM rs k) s p q2 hp hq2 g1 g2
      · refine ⟨q, hq, hf.good, fun i r q' hi hr hq' t => ?_⟩
        rw [hf.val]
        unfold eMax
        by_cases hik : i = k + 1
        · subst hik
          have er : r = s := by rw [← hse, List.getD_eq_getElem?_getD, hr]; rfl
          subst er
          obtain rfl : q' = q2 := by rw [hq2] at hq'; exact (Int.ofNat.inj hq').symm
          exact ole_omax_r _ _
        · exact ole_trans (hall i r q' (by omega) hr hq' t) (ole_omax_l _ _)
      · rw [h3] at hc; cases hc
      · rw [h3] at hc; cases hc
    · have e : foldM rs (k + 1) = Rs.lim := by
        show (if (foldM rs k).c = 0 then maxA (foldM rs k) (rs.getD (k + 1) Rs.lim) else Rs.lim) = _
        rw [if_neg h0]
      rw [e] at hc; cases hc
/-- A small pace's answer. -/
theorem pacA_small {rn rd ln ld : Nat} (h1 : okB rn rd = true) (h2 : okB ln ld = true) (r0 : rn ≤ 1048576) (r2 : rd ≤ 120) (hf : upN ln ld + rd ≤ 400) :
    ∃ (zs : List Int) (p : Nat) (inc : Int), pacA ⟨rn, rd, ln, ld⟩ = ⟨zs, p, inc, 0⟩ ∧ EForm zs p inc (paceE rn rd ln ld) := by
  have k1 := (okF_iff _ _).1 ((okB_iff _ _).1 h1).1
  have k2 := (okF_iff _ _).1 ((okB_iff _ _).1 h2).1
  have h := pacA_is ⟨rn, rd, ln, ld⟩
  obtain ⟨r, hr⟩ : ∃ r, pacA ⟨rn, rd, ln, ld⟩ = r := ⟨_, rfl⟩
  rw [hr] at h ⊢
  obtain ⟨zs, p, inc, c⟩ := r
  rcases h with ⟨_, ⟨hc, q, hq, hf⟩ | ⟨_, _, _, _, hn⟩⟩ | ⟨_, h, _⟩
  · refine ⟨zs, q, inc, ?_, hf⟩
    show (⟨zs, p, inc, c⟩ : Rs) = _
    rw [show c = 0 from hc, show p = (q : Int) from hq]
  · have hn' : ¬ ECan (paceE rn rd ln ld) := hn
    exact absurd (pace_can (by omega) r2 (by omega) r0 ((first_le (by omega)).1 (Nat.le_refl _)) hf) hn'
  · have h' : 120 < rd := h
    omega
/-- The best of three small paces. -/
theorem best_three {an ad kn kd bn bd ln ld cn cd mn md : Nat} (a1 : okB an ad = true) (a2 : okB kn kd = true) (b1 : okB bn bd = true) (b2 : okB ln ld = true) (c1 : okB cn cd = true) (c2 : okB mn md = true)
    (a3 : an ≤ 1048576) (a4 : ad ≤ 120) (a5 : upN kn kd + ad ≤ 400) (b3 : bn ≤ 1048576) (b4 : bd ≤ 120) (b5 : upN ln ld + bd ≤ 400) (c3 : cn ≤ 1048576) (c4 : cd ≤ 120) (c5 : upN mn md + cd ≤ 400) :
    bestA [⟨an, ad, kn, kd⟩, ⟨bn, bd, ln, ld⟩, ⟨cn, cd, mn, md⟩] = Rs.lim ∨ ∃ (zs : List Int) (p : Nat) (inc : Int), bestA [⟨an, ad, kn, kd⟩, ⟨bn, bd, ln, ld⟩, ⟨cn, cd, mn, md⟩] = ⟨zs, p, inc, 0⟩ ∧ Good zs p inc ∧
      ∀ t, ole (paceE an ad kn kd t) (eC zs p inc t) ∧ ole (paceE bn bd ln ld t) (eC zs p inc t) ∧ ole (paceE cn cd mn md t) (eC zs p inc t) := by
  obtain ⟨z1, p1, i1, e1, f1⟩ := pacA_small a1 a2 a3 a4 a5
  obtain ⟨z2, p2, i2, e2, f2⟩ := pacA_small b1 b2 b3 b4 b5
  obtain ⟨z3, p3, i3, e3, f3⟩ := pacA_small c1 c2 c3 c4 c5
  obtain ⟨bs, hbs⟩ : ∃ bs : List Bkt, bs = [⟨an, ad, kn, kd⟩, ⟨bn, bd, ln, ld⟩, ⟨cn, cd, mn, md⟩] := ⟨_, rfl⟩
  have hb : badL bs = false := by rw [hbs]; unfold badL; simp [Bkt.ok, a1, a2, b1, b2, c1, c2]
  have hl : bs.length = 3 := by rw [hbs]; rfl
  have hm : bs.map pacA = [⟨z1, p1, i1, 0⟩, ⟨z2, p2, i2, 0⟩, ⟨z3, p3, i3, 0⟩] := by
    rw [hbs, ← e1, ← e2, ← e3]; rfl
  have hall : ∀ (i : Nat) (b : Bkt), bs[i]? = some b → (pacA b).c = 0 := fun i b hi => by
    have h : (bs.map pacA)[i]? = some (pacA b) := by rw [List.getElem?_map, hi]; rfl
    rw [hm] at h
    rcases i with _ | _ | _ | i
    · have h2 := Option.some.inj h; rw [← h2]
    · have h2 := Option.some.inj h; rw [← h2]
    · have h2 := Option.some.inj h; rw [← h2]
    · simp at h
  have hA := allC_map hall
  rw [← hbs, bestA_fold (by omega) (by omega) hb hall]
  have hlen : (bs.map pacA).length = 3 := by rw [List.length_map]; exact hl
  rw [hl]
  by_cases h0 : (foldM (bs.map pacA) (3 - 1)).c = 0
  · obtain ⟨q, hq, g, hx⟩ := foldM_most hA (3 - 1) (by omega) h0
    refine .inr ⟨_, q, _, ?_, g, fun t => ⟨?_, ?_, ?_⟩⟩
    · generalize foldM (bs.map pacA) (3 - 1) = r at *
      obtain ⟨zs, p, inc, c⟩ := r
      show (⟨zs, p, inc, c⟩ : Rs) = ⟨zs, (q : Int), inc, 0⟩
      rw [show p = (q : Int) from hq, show c = 0 from h0]
    · have := hx 0 ⟨z1, p1, i1, 0⟩ p1 (by omega) (by rw [hm]; rfl) rfl t
      rwa [show eC z1 p1 i1 t = paceE an ad kn kd t from f1.val t] at this
    · have := hx 1 ⟨z2, p2, i2, 0⟩ p2 (by omega) (by rw [hm]; rfl) rfl t
      rwa [show eC z2 p2 i2 t = paceE bn bd ln ld t from f2.val t] at this
    · have := hx 2 ⟨z3, p3, i3, 0⟩ p3 (by omega) (by rw [hm]; rfl) rfl t
      rwa [show eC z3 p3 i3 t = paceE cn cd mn md t from f3.val t] at this
  · exact .inl ((foldM_ok hA (3 - 1) (by omega)).of h0)
theorem Pq4.apart {w w' : World} {p b : Nat} {x0 x1 x2 x3 : Int} (h : Pq4 w p x0 x1 x2 x3) (ha : Apart b w w') (hp : p ≠ b) : Pq4 w' p x0 x1 x2 x3 := by
  obtain ⟨h1, h2⟩ := acell ha
  exact ⟨(h1 p 0 h.lt hp).trans h.c0, (h1 p 1 h.lt hp).trans h.c1, (h1 p 2 h.lt hp).trans h.c2, (h1 p 3 h.lt hp).trans h.c3, (h2 p 0 h.lt hp).trans h.f0, (h2 p 1 h.lt hp).trans h.f1, (h2 p 2 h.lt hp).trans h.f2, (h2 p 3 h.lt hp).trans h.f3⟩
/-- What stands when a pace is changed: the first pace, another one, the pace that is changed, the reader. -/
structure Gr (u1 : World) (b : Nat) (ra : Option Addr) (rn rc : Nat) (BA : Nat) (pn pd ln ld : Int) (BO : Nat) (o0 o1 o2 o3 : Int) (BD : Nat) (x0 x1 x2 x3 : Int) (u : World) : Prop where
  hd : Held u1 b ra rn rc u
  a : Pq4 u BA pn pd ln ld
  o : Pq4 u BO o0 o1 o2 o3
  d : Pq4 u BD x0 x1 x2 x3
  ne : BA ≠ b ∧ BO ≠ b ∧ BD ≠ b
  nd : BA ≠ BD ∧ BO ≠ BD
  up : u1.heap.size ≤ BD ∧ b < u1.heap.size
section
variable {u1 u v : World} {b : Nat} {ra : Option Addr} {rn rc BA : Nat} {pn pd ln ld : Int} {BO : Nat} {o0 o1 o2 o3 : Int} {BD : Nat} {x0 x1 x2 x3 : Int}
theorem Gr.call (h : Gr u1 b ra rn rc BA pn pd ln ld BO o0 o1 o2 o3 BD x0 x1 x2 x3 u) (hb : Below u.heap.size u v) : Gr u1 b ra rn rc BA pn pd ln ld BO o0 o1 o2 o3 BD x0 x1 x2 x3 v :=
  ⟨h.hd.below hb, h.a.below hb, h.o.below hb, h.d.below hb, h.ne, h.nd, h.up⟩
theorem Gr.read (h : Gr u1 b ra rn rc BA pn pd ln ld BO o0 o1 o2 o3 BD x0 x1 x2 x3 u) (hs : SrcAt v b ra rn rc) (ha : Apart b u v) : Gr u1 b ra rn rc BA pn pd ln ld BO o0 o1 o2 o3 BD x0 x1 x2 x3 v :=
  ⟨h.hd.call hs ha, h.a.apart ha h.ne.1, h.o.apart ha h.ne.2.1, h.d.apart ha h.ne.2.2, h.ne, h.nd, h.up⟩
theorem Pq4.set01 {w : World} {p : Nat} (h : Pq4 w p x0 x1 x2 x3) (x y : Int) : Pq4 ((w.setCell ⟨p, 0, none⟩ (.int .i64 x)).setCell ⟨p, 1, none⟩ (.int .i64 y)) p x y x2 x3 := by
  obtain ⟨c0, c1, c2, c3, f0, f1, f2, f3⟩ := h
  exact ⟨by go_simp, by go_simp, by go_simp, by go_simp, by go_simp, by go_simp, by go_simp, by go_simp⟩
theorem Pq4.set23 {w : World} {p : Nat} (h : Pq4 w p x0 x1 x2 x3) (x y : Int) : Pq4 ((w.setCell ⟨p, 2, none⟩ (.int .i64 x)).setCell ⟨p, 3, none⟩ (.int .i64 y)) p x0 x1 x y := by
  obtain ⟨c0, c1, c2, c3, f0, f1, f2, f3⟩ := h
  exact ⟨by go_simp, by go_simp, by go_simp, by go_simp, by go_simp, by go_simp, by go_simp, by go_simp⟩
theorem Gr.put01 (h : Gr u1 b ra rn rc BA pn pd ln ld BO o0 o1 o2 o3 BD x0 x1 x2 x3 u) (x y : Int) : Gr u1 b ra rn rc BA pn pd ln ld BO o0 o1 o2 o3 BD x y x2 x3 ((u.setCell ⟨BD, 0, none⟩ (.int .i64 x)).setCell ⟨BD, 1, none⟩ (.int .i64 y)) :=
  ⟨(h.hd.set h.up.2 (p := ⟨BD, 0, none⟩) h.up.1 _).set h.up.2 (p := ⟨BD, 1, none⟩) h.up.1 _, (h.a.other h.nd.1 _ _).other h.nd.1 _ _, (h.o.other h.nd.2 _ _).other h.nd.2 _ _, h.d.set01 x y, h.ne, h.nd, h.up⟩
theorem Gr.put23 (h : Gr u1 b ra rn rc BA pn pd ln ld BO o0 o1 o2 o3 BD x0 x1 x2 x3 u) (x y : Int) : Gr u1 b ra rn rc BA pn pd ln ld BO o0 o1 o2 o3 BD x0 x1 x y ((u.setCell ⟨BD, 2, none⟩ (.int .i64 x)).setCell ⟨BD, 3, none⟩ (.int .i64 y)) :=
  ⟨(h.hd.set h.up.2 (p := ⟨BD, 2, none⟩) h.up.1 _).set h.up.2 (p := ⟨BD, 3, none⟩) h.up.1 _, (h.a.other h.nd.1 _ _).other h.nd.1 _ _, (h.o.other h.nd.2 _ _).other h.nd.2 _ _, h.d.set23 x y, h.ne, h.nd, h.up⟩
end
/-- A fraction and another one more. -/
theorem more_nat {a b c d : Nat} (h1 : okB a b = true) (h2 : okB c d = true) (hb : b ≤ 20) (hd : d ≤ 20) (ha : a ≤ 100) (hc : c ≤ 100) :
    ∃ S T : Nat, addF a b c d = ((S : Int), (T : Int), 0) ∧ okB S T = true ∧ a * T ≤ S * b ∧ 1 ≤ T ∧ T ≤ b * d ∧ S ≤ a * d + c * b := by
  obtain ⟨S, T, he, ho, hx, t1, t2, s2⟩ := svadd_nat h1 h2 hb hd (by omega) (by omega)
  have k2 := (okF_iff _ _).1 ((okB_iff _ _).1 h2).1
  refine ⟨S, T, he, ho, Nat.le_of_mul_le_mul_right (c := d) ?_ (by omega), t1, t2, s2⟩
  rw [show S * b * d = S * (b * d) by grind, hx, show (a * d + c * b) * T = a * T * d + c * b * T by grind]
  exact Nat.le_add_right _ _

set_option maxRecDepth 100000 in
set_option maxHeartbeats 6400000 in
theorem serviceGrows_walk (W : World) (a : Option Addr) (n cap : Nat) (hrow : RowAt W a n cap) :
    Calls Try.prog 7 #[.slice a n cap] W fun e w' => e = .returned (.bool true) ∧ Below W.heap.size W w' := by
  have HR := Lib.hid hrow
  clear hrow
  go_enter Try.func7, Try.ntmps7
  go_wp2_with fail
  refine (new_any a n cap _ HR.out).mono ?_
  rintro e u1 ⟨rfl, hb1, hz1, ra, rn, rc, hs1⟩
  have HB1 := Lib.hid hb1
  have HS1 := Lib.hid hs1
  have Z1 := Lib.hid (show W.heap.size < u1.heap.size by omega)
  have HD := Lib.hid (Held.start hs1)
  clear hb1 hz1 hs1
  go_wp2_with fail
  refine (frac_any 9 3 (by omega) (by omega) (by omega) (by omega) _ ra rn rc _ (HD.out.at HS1.out)).mono ?_
  rintro e u2 ⟨x1, y1, hp, rfl, hs, ha⟩
  obtain ⟨pn, pd, rfl, rfl, f0, f1, f2, f3⟩ := frac_nat hp (by omega) (by omega)
  have Opn := Lib.hid (show okB pn pd = true ∧ pn ≤ 27 ∧ 1 ≤ pd ∧ pd ≤ 3 from ⟨f0, by omega, f2, by omega⟩)
  have HD := Lib.hid (HD.out.call hs ha)
  clear hs ha hp f0 f1 f2 f3
  go_wp2_with fail
  refine (frac_any 6 3 (by omega) (by omega) (by omega) (by omega) _ ra rn rc _ (HD.out.at HS1.out)).mono ?_
  rintro e u3 ⟨x1, y1, hp, rfl, hs, ha⟩
  obtain ⟨ln, ld, rfl, rfl, f0, f1, f2, f3⟩ := frac_nat hp (by omega) (by omega)
  have Oln := Lib.hid (show okB ln ld = true ∧ ln ≤ 18 ∧ 1 ≤ ld ∧ ld ≤ 3 from ⟨f0, by omega, f2, by omega⟩)
  have HD := Lib.hid (HD.out.call hs ha)
  clear hs ha hp f0 f1 f2 f3
  obtain ⟨u4, hw⟩ : ∃ w', u3.alloc (.cells #[.int .i64 pn, .int .i64 pd, .int .i64 ln, .int .i64 ld] 25) = w' := ⟨_, rfl⟩
  have hz : Below u3.heap.size u3 u4 := by rw [← hw]; exact below_box _
  have hsA : W.heap.size < u3.heap.size := HD.out.lt
  have NEA := Lib.hid (show u3.heap.size ≠ W.heap.size by omega)
  have XA := Lib.hid (show Pq4 u4 u3.heap.size pn pd ln ld by rw [← hw]; exact Pq4.new _ _ _ _ _ _)
  have HD := Lib.hid (HD.out.below hz)
  have HWA := Lib.hid hw
  have SZA := Lib.hid (show u4.heap.size = u3.heap.size + 1 by rw [← hw]; simp)
  clear hw hz hsA
  go_upto_region 3 with fail
  try rw [HWA.out]
  obtain ⟨BA, hB⟩ : ∃ B, u3.heap.size = B := ⟨_, rfl⟩
  try rw [hB] at XA NEA
  try rw [hB]
  clear HWA SZA hB
  obtain ⟨c0, c1, c2, c3, c4, c5, c6, c7⟩ := XA.out
  obtain ⟨u5, hw⟩ : ∃ w', u4.alloc (.cells #[.int .i64 pn, .int .i64 pd, .int .i64 ln, .int .i64 ld] 25) = w' := ⟨_, rfl⟩
  have hz : Below u4.heap.size u4 u5 := by rw [← hw]; exact below_box _
  have hsB : W.heap.size < u4.heap.size := HD.out.lt
  have NEB := Lib.hid (show u4.heap.size ≠ W.heap.size by omega)
  have UB := Lib.hid (show u1.heap.size ≤ u4.heap.size from HD.out.ap.size)
  have AB := Lib.hid (show BA ≠ u4.heap.size from by have := XA.out.lt; omega)
  have XA := Lib.hid (XA.out.below hz)
  have XB := Lib.hid (show Pq4 u5 u4.heap.size pn pd ln ld by rw [← hw]; exact Pq4.new _ _ _ _ _ _)
  have HD := Lib.hid (HD.out.below hz)
  have HWB := Lib.hid hw
  have SZB := Lib.hid (show u5.heap.size = u4.heap.size + 1 by rw [← hw]; simp)
  clear hw hz hsB
  go_upto_region 4 with fail
  try rw [HWB.out]
  obtain ⟨BB, hB⟩ : ∃ B, u4.heap.size = B := ⟨_, rfl⟩
  try rw [hB] at XB NEB UB AB
  try rw [hB]
  clear HWB SZB hB
  clear c0 c1 c2 c3 c4 c5 c6 c7
  have UP4 := Lib.hid (show u1.heap.size ≤ BB ∧ W.heap.size < u1.heap.size from ⟨UB.out, HS1.out.lt⟩)
  have ND4 := Lib.hid (show BA ≠ BB ∧ BA ≠ BB from ⟨AB.out, AB.out⟩)
  have G0 := Lib.hid (show Gr u1 W.heap.size ra rn rc BA pn pd ln ld BA pn pd ln ld BB pn pd ln ld u5 from ⟨HD.out, XA.out, XA.out, XB.out, ⟨NEA.out, NEA.out, NEB.out⟩, ND4.out, UP4.out⟩)
  go_cut [] (fun wx => ∃ tn td : Nat, Hid (okB tn td = true ∧ pn * td ≤ tn * pd ∧ 1 ≤ td ∧ td ≤ 9 ∧ tn ≤ 200) ∧ Hid (Gr u1 W.heap.size ra rn rc BA pn pd ln ld BA pn pd ln ld BB tn td ln ld wx))
  case first =>
    have O0 := Lib.hid (G0.out.call ((Below.refl u5.heap.size u5).drew))
    have RD0 := Lib.hid (O0.out.hd.at HS1.out)
    obtain ⟨c0, c1, c2, c3, _, _, _, _⟩ := O0.out.a
    go_region_with (first
      | (go_at_call 17; (with_reducible refine (frac_any 3 2 (by omega) (by omega) (by omega) (by omega) _ ra rn rc _ RD0.out).mono ?_); rintro e x1 ⟨fx, fy, hp, rfl, hs, ha⟩; obtain ⟨fn, fd, rfl, rfl, f0, f1, f2, f3⟩ := frac_nat hp (by omega) (by omega); obtain ⟨tn, td, hsum, t0, t1, t2, t3, t4⟩ := more_nat Opn.out.1 f0 (by have := Opn.out; omega) (by omega) (by have := Opn.out; omega) (by omega); have HSU := Lib.hid hsum; have OT := Lib.hid (show okB tn td = true ∧ pn * td ≤ tn * pd ∧ 1 ≤ td ∧ td ≤ 9 ∧ tn ≤ 200 from ⟨t0, t1, t2, Nat.le_trans t3 (Nat.le_trans (Nat.mul_le_mul (show pd ≤ 3 by have := Opn.out; omega) (show fd ≤ 3 by omega)) (by omega)), Nat.le_trans t4 (Nat.le_trans (Nat.add_le_add (Nat.mul_le_mul (show pn ≤ 30 by have := Opn.out; omega) (show fd ≤ 3 by omega)) (Nat.mul_le_mul (show fn ≤ 30 by omega) (show pd ≤ 3 by have := Opn.out; omega))) (by omega))⟩); have O1 := Lib.hid (O0.out.read hs ha); clear hs ha hp hsum t0 t1 t2 t3 t4; obtain ⟨c0', c1', c2', c3', _, _, _, _⟩ := O1.out.a)
      | (go_at_call 36; (with_reducible refine (radd_all pn pd fn fd _).mono ?_); rintro e x2 ⟨rfl, hb⟩; rw [HSU.out]; have O2 := Lib.hid (O1.out.call hb); clear hb; obtain ⟨d0, d1, d2, d3, d4, d5, d6, d7⟩ := O2.out.d))
    all_goals
      have O3 := Lib.hid (O2.out.put01 tn td)
      go_wp2_with fail
      go_meet
      exact ⟨tn, td, OT, O3⟩
  case rest =>
    obtain ⟨bn, bd, OBF, G1⟩ := hcut
    obtain ⟨y1, rfl⟩ : ∃ u : World, u = wc := ⟨_, rfl⟩
    have HD := Lib.hid G1.out.hd
    have XA := Lib.hid G1.out.a
    have XB := Lib.hid G1.out.d
    clear G0
    obtain ⟨c0, c1, c2, c3, c4, c5, c6, c7⟩ := XA.out
    obtain ⟨u41, hw⟩ : ∃ w', y1.alloc (.cells #[.int .i64 pn, .int .i64 pd, .int .i64 ln, .int .i64 ld] 25) = w' := ⟨_, rfl⟩
    have hz : Below y1.heap.size y1 u41 := by rw [← hw]; exact below_box _
    have hsC : W.heap.size < y1.heap.size := HD.out.lt
    have NEC := Lib.hid (show y1.heap.size ≠ W.heap.size by omega)
    have UC := Lib.hid (show u1.heap.size ≤ y1.heap.size from HD.out.ap.size)
    have AC := Lib.hid (show BA ≠ y1.heap.size from by have := XA.out.lt; omega)
    have BCn := Lib.hid (show BB ≠ y1.heap.size from by have := XB.out.lt; omega)
    have XA := Lib.hid (XA.out.below hz)
    have XB := Lib.hid (XB.out.below hz)
    have XC := Lib.hid (show Pq4 u41 y1.heap.size pn pd ln ld by rw [← hw]; exact Pq4.new _ _ _ _ _ _)
    have HD := Lib.hid (HD.out.below hz)
    have HWC := Lib.hid hw
    have SZC := Lib.hid (show u41.heap.size = y1.heap.size + 1 by rw [← hw]; simp)
    clear hw hz hsC
    go_upto_region 6 with fail
    try rw [HWC.out]
    obtain ⟨BC, hB⟩ : ∃ B, y1.heap.size = B := ⟨_, rfl⟩
    try rw [hB] at XC NEC UC AC BCn
    try rw [hB]
    clear HWC SZC hB
    clear c0 c1 c2 c3 c4 c5 c6 c7
    have UP6 := Lib.hid (show u1.heap.size ≤ BC ∧ W.heap.size < u1.heap.size from ⟨UC.out, HS1.out.lt⟩)
    have ND6 := Lib.hid (show BA ≠ BC ∧ BB ≠ BC from ⟨AC.out, BCn.out⟩)
    have G2 := Lib.hid (show Gr u1 W.heap.size ra rn rc BA pn pd ln ld BB bn bd ln ld BC pn pd ln ld u41 from ⟨HD.out, XA.out, XB.out, XC.out, ⟨NEA.out, NEB.out, NEC.out⟩, ND6.out, UP6.out⟩)
    go_cut [] (fun wx => ∃ tn td : Nat, Hid (okB tn td = true ∧ ln * td ≤ tn * ld ∧ 1 ≤ td ∧ td ≤ 9 ∧ tn ≤ 200) ∧ Hid (Gr u1 W.heap.size ra rn rc BA pn pd ln ld BB bn bd ln ld BC pn pd tn td wx))
    case first =>
      have O0 := Lib.hid (G2.out.call ((Below.refl u41.heap.size u41).drew))
      have RD0 := Lib.hid (O0.out.hd.at HS1.out)
      obtain ⟨c0, c1, c2, c3, _, _, _, _⟩ := O0.out.a
      go_region_with (first
        | (go_at_call 17; (with_reducible refine (frac_any 5 2 (by omega) (by omega) (by omega) (by omega) _ ra rn rc _ RD0.out).mono ?_); rintro e x1 ⟨fx, fy, hp, rfl, hs, ha⟩; obtain ⟨fn, fd, rfl, rfl, f0, f1, f2, f3⟩ := frac_nat hp (by omega) (by omega); obtain ⟨tn, td, hsum, t0, t1, t2, t3, t4⟩ := more_nat Oln.out.1 f0 (by have := Oln.out; omega) (by omega) (by have := Oln.out; omega) (by omega); have HSU := Lib.hid hsum; have OT := Lib.hid (show okB tn td = true ∧ ln * td ≤ tn * ld ∧ 1 ≤ td ∧ td ≤ 9 ∧ tn ≤ 200 from ⟨t0, t1, t2, Nat.le_trans t3 (Nat.le_trans (Nat.mul_le_mul (show ld ≤ 3 by have := Oln.out; omega) (show fd ≤ 3 by omega)) (by omega)), Nat.le_trans t4 (Nat.le_trans (Nat.add_le_add (Nat.mul_le_mul (show ln ≤ 30 by have := Oln.out; omega) (show fd ≤ 3 by omega)) (Nat.mul_le_mul (show fn ≤ 30 by omega) (show ld ≤ 3 by have := Oln.out; omega))) (by omega))⟩); have O1 := Lib.hid (O0.out.read hs ha); clear hs ha hp hsum t0 t1 t2 t3 t4; obtain ⟨c0', c1', c2', c3', _, _, _, _⟩ := O1.out.a)
        | (go_at_call 36; (with_reducible refine (radd_all ln ld fn fd _).mono ?_); rintro e x2 ⟨rfl, hb⟩; rw [HSU.out]; have O2 := Lib.hid (O1.out.call hb); clear hb; obtain ⟨d0, d1, d2, d3, d4, d5, d6, d7⟩ := O2.out.d))
      all_goals
        have O3 := Lib.hid (O2.out.put23 tn td)
        go_wp2_with fail
        go_meet
        exact ⟨tn, td, OT, O3⟩
    case rest =>
      obtain ⟨cn, cd, OCF, G3⟩ := hcut
      obtain ⟨y2, rfl⟩ : ∃ u : World, u = wc := ⟨_, rfl⟩
      have HD := Lib.hid G3.out.hd
      have XA := Lib.hid G3.out.a
      have XB := Lib.hid G3.out.o
      have XC := Lib.hid G3.out.d
      clear G1 G2
      obtain ⟨c0, c1, c2, c3, c4, c5, c6, c7⟩ := XA.out
      go_wp2_with fail
      clear c0 c1 c2 c3 c4 c5 c6 c7
      have hsz : W.heap.size < y2.heap.size := HD.out.lt
      refine (pace_ok (rn := pn) (rd := pd) (ln := ln) (ld := ld) Opn.out.1 Oln.out.1 (by have := Opn.out; omega) (by have := Opn.out; omega) (by have h1 := Opn.out; have h2 := Oln.out; have := up_small (n := ln) (d := ld) (by omega); omega) _).mono ?_
      rintro e u61 ⟨af, nf, capf, zf, pf, jf, rfl, hb, hr, hf, hx⟩
      have Ff := Lib.hid hf
      have HD := Lib.hid (HD.out.below hb)
      have XA := Lib.hid (XA.out.below hb)
      have XB := Lib.hid (XB.out.below hb)
      have XC := Lib.hid (XC.out.below hb)
      clear hb hf
      obtain ⟨u62, hw⟩ : ∃ w', u61.alloc (.cells #[.slice af nf capf, .int .i64 pf, .int .i64 jf] 38) = w' := ⟨_, rfl⟩
      have hz : Below u61.heap.size u61 u62 := by rw [← hw]; exact below_box _
      have hsf : W.heap.size < u61.heap.size := HD.out.lt
      have NEf := Lib.hid (show u61.heap.size ≠ W.heap.size ∧ ∀ y, af = some y → ¬ y.block = W.heap.size from ⟨by omega, fun y hy => by have h1 := hx y hy; have h2 := hsz; omega⟩)
      have XA := Lib.hid (XA.out.below hz)
      have XB := Lib.hid (XB.out.below hz)
      have XC := Lib.hid (XC.out.below hz)
      have Xf := Lib.hid (show Bx u62 u61.heap.size af nf capf pf jf zf by rw [← hw]; exact Bx.new hr)
      have HD := Lib.hid (HD.out.below hz)
      have HW := Lib.hid hw
      clear hw hz hsf hr hx hsz
      go_upto_region 8 with fail
      try rw [HW.out]
      obtain ⟨Bf, hB⟩ : ∃ B, u61.heap.size = B := ⟨_, rfl⟩
      rw [hB] at Xf NEf
      try rw [hB]
      clear HW hB
      obtain ⟨c0, c1, c2, c3, c4, c5, c6, c7⟩ := XB.out
      go_wp2_with fail
      clear c0 c1 c2 c3 c4 c5 c6 c7
      have hsz : W.heap.size < u62.heap.size := HD.out.lt
      refine (pace_ok (rn := bn) (rd := bd) (ln := ln) (ld := ld) OBF.out.1 Oln.out.1 (by have := OBF.out; omega) (by have := OBF.out; omega) (by have h1 := OBF.out; have h2 := Oln.out; have := up_small (n := ln) (d := ld) (by omega); omega) _).mono ?_
      rintro e u63 ⟨ag, ng, capg, zg, pg, jg, rfl, hb, hr, hf, hx⟩
      have Fg := Lib.hid hf
      have HD := Lib.hid (HD.out.below hb)
      have XA := Lib.hid (XA.out.below hb)
      have XB := Lib.hid (XB.out.below hb)
      have XC := Lib.hid (XC.out.below hb)
      have Xf := Lib.hid (Xf.out.under hb)
      clear hb hf
      obtain ⟨u64, hw⟩ : ∃ w', u63.alloc (.cells #[.slice ag ng capg, .int .i64 pg, .int .i64 jg] 38) = w' := ⟨_, rfl⟩
      have hz : Below u63.heap.size u63 u64 := by rw [← hw]; exact below_box _
      have hsg : W.heap.size < u63.heap.size := HD.out.lt
      have NEg := Lib.hid (show u63.heap.size ≠ W.heap.size ∧ ∀ y, ag = some y → ¬ y.block = W.heap.size from ⟨by omega, fun y hy => by have h1 := hx y hy; have h2 := hsz; omega⟩)
      have XA := Lib.hid (XA.out.below hz)
      have XB := Lib.hid (XB.out.below hz)
      have XC := Lib.hid (XC.out.below hz)
      have Xf := Lib.hid (Xf.out.under hz)
      have Xg := Lib.hid (show Bx u64 u63.heap.size ag ng capg pg jg zg by rw [← hw]; exact Bx.new hr)
      have HD := Lib.hid (HD.out.below hz)
      have HW := Lib.hid hw
      clear hw hz hsg hr hx hsz
      go_upto_region 9 with fail
      try rw [HW.out]
      obtain ⟨Bg, hB⟩ : ∃ B, u63.heap.size = B := ⟨_, rfl⟩
      rw [hB] at Xg NEg
      try rw [hB]
      clear HW hB
      obtain ⟨c0, c1, c2, c3, c4, c5, c6, c7⟩ := XC.out
      go_wp2_with fail
      clear c0 c1 c2 c3 c4 c5 c6 c7
      have hsz : W.heap.size < u64.heap.size := HD.out.lt
      refine (pace_ok (rn := pn) (rd := pd) (ln := cn) (ld := cd) Opn.out.1 OCF.out.1 (by have := Opn.out; omega) (by have := Opn.out; omega) (by have h1 := Opn.out; have h2 := OCF.out; have := up_small (n := cn) (d := cd) (by omega); omega) _).mono ?_
      rintro e u65 ⟨ax, nx, capx, zx, px, jx, rfl, hb, hr, hf, hx⟩
      have Fx := Lib.hid hf
      have HD := Lib.hid (HD.out.below hb)
      have XA := Lib.hid (XA.out.below hb)
      have XB := Lib.hid (XB.out.below hb)
      have XC := Lib.hid (XC.out.below hb)
      have Xf := Lib.hid (Xf.out.under hb)
      have Xg := Lib.hid (Xg.out.under hb)
      clear hb hf
      obtain ⟨u66, hw⟩ : ∃ w', u65.alloc (.cells #[.slice ax nx capx, .int .i64 px, .int .i64 jx] 38) = w' := ⟨_, rfl⟩
      have hz : Below u65.heap.size u65 u66 := by rw [← hw]; exact below_box _
      have hsx : W.heap.size < u65.heap.size := HD.out.lt
      have NEx := Lib.hid (show u65.heap.size ≠ W.heap.size ∧ ∀ y, ax = some y → ¬ y.block = W.heap.size from ⟨by omega, fun y hy => by have h1 := hx y hy; have h2 := hsz; omega⟩)
      have XA := Lib.hid (XA.out.below hz)
      have XB := Lib.hid (XB.out.below hz)
      have XC := Lib.hid (XC.out.below hz)
      have Xf := Lib.hid (Xf.out.under hz)
      have Xg := Lib.hid (Xg.out.under hz)
      have Xx := Lib.hid (show Bx u66 u65.heap.size ax nx capx px jx zx by rw [← hw]; exact Bx.new hr)
      have HD := Lib.hid (HD.out.below hz)
      have HW := Lib.hid hw
      clear hw hz hsx hr hx hsz
      go_upto_region 10 with fail
      try rw [HW.out]
      obtain ⟨Bx, hB⟩ : ∃ B, u65.heap.size = B := ⟨_, rfl⟩
      rw [hB] at Xx NEx
      try rw [hB]
      clear HW hB
      have HBT := Lib.hid (best_three Opn.out.1 Oln.out.1 Opn.out.1 OCF.out.1 OBF.out.1 Oln.out.1 (by have := Opn.out; omega) (by have := Opn.out; omega) (by have h1 := Opn.out; have h2 := Oln.out; have := up_small (n := ln) (d := ld) (by omega); omega) (by have := Opn.out; omega) (by have := Opn.out; omega) (by have h1 := Opn.out; have h2 := OCF.out; have := up_small (n := cn) (d := cd) (by omega); omega) (by have := OBF.out; omega) (by have := OBF.out; omega) (by have h1 := OBF.out; have h2 := Oln.out; have := up_small (n := ln) (d := ld) (by omega); omega))
      obtain ⟨r, hr⟩ : ∃ r, bestA [⟨pn, pd, ln, ld⟩, ⟨pn, pd, cn, cd⟩, ⟨bn, bd, ln, ld⟩] = r := ⟨_, rfl⟩
      rw [hr] at HBT
      obtain ⟨u67, hw⟩ : ∃ w', u66.alloc (.cells #[.int .i64 pn, .int .i64 pd, .int .i64 ln, .int .i64 ld, .int .i64 pn, .int .i64 pd, .int .i64 cn, .int .i64 cd, .int .i64 bn, .int .i64 bd, .int .i64 ln, .int .i64 ld] 25) = w' := ⟨_, rfl⟩
      have hz : Below u66.heap.size u66 u67 := by rw [← hw]; exact below_box _
      have XT := Lib.hid (show RowB u67 u66.heap.size 0 [⟨pn, pd, ln, ld⟩, ⟨pn, pd, cn, cd⟩, ⟨bn, bd, ln, ld⟩] by rw [← hw]; exact svrow_three u66 ⟨pn, pd, ln, ld⟩ ⟨pn, pd, cn, cd⟩ ⟨bn, bd, ln, ld⟩ _)
      have HBE := Lib.hid (show ∀ B u, RowB u B 0 [⟨pn, pd, ln, ld⟩, ⟨pn, pd, cn, cd⟩, ⟨bn, bd, ln, ld⟩] → Calls Try.prog 24 #[.slice (some ⟨B, 0, none⟩) 3 3] u (GivesCE r.zs r.p r.inc r.c u) from fun B u h => by rw [← hr]; exact best_any B 3 3 _ rfl (by omega) (by omega) u h)
      have HW := Lib.hid hw
      obtain ⟨c0, c1, c2, c3, c4, c5, c6, c7⟩ := XA.out
      obtain ⟨d0, d1, d2, d3, d4, d5, d6, d7⟩ := XB.out
      obtain ⟨e0, e1, e2, e3, e4, e5, e6, e7⟩ := XC.out
      clear hw hr
      go_wp2_with fail
      try rw [HW.out]
      clear c0 c1 c2 c3 c4 c5 c6 c7 d0 d1 d2 d3 d4 d5 d6 d7 e0 e1 e2 e3 e4 e5 e6 e7
      have HD := Lib.hid (HD.out.below hz)
      have XA := Lib.hid (XA.out.below hz)
      have XB := Lib.hid (XB.out.below hz)
      have XC := Lib.hid (XC.out.below hz)
      have Xf := Lib.hid (Xf.out.under hz)
      have Xg := Lib.hid (Xg.out.under hz)
      have Xx := Lib.hid (Xx.out.under hz)
      clear hz HW
      have hsz : W.heap.size < u67.heap.size := HD.out.lt
      refine (HBE.out _ _ XT.out).mono ?_
      rintro e u68 ⟨am, nm, capm, rfl, hb, hr, hx⟩
      have HD := Lib.hid (HD.out.below hb)
      have XA := Lib.hid (XA.out.below hb)
      have XB := Lib.hid (XB.out.below hb)
      have XC := Lib.hid (XC.out.below hb)
      have Xf := Lib.hid (Xf.out.under hb)
      have Xg := Lib.hid (Xg.out.under hb)
      have Xx := Lib.hid (Xx.out.under hb)
      clear hb XT HBE
      obtain ⟨u69, hw⟩ : ∃ w', u68.alloc (.cells #[.slice am nm capm, .int .i64 r.p, .int .i64 r.inc] 38) = w' := ⟨_, rfl⟩
      have hz : Below u68.heap.size u68 u69 := by rw [← hw]; exact below_box _
      have HD := Lib.hid (HD.out.below hz)
      have XA := Lib.hid (XA.out.below hz)
      have XB := Lib.hid (XB.out.below hz)
      have XC := Lib.hid (XC.out.below hz)
      have Xf := Lib.hid (Xf.out.under hz)
      have Xg := Lib.hid (Xg.out.under hz)
      have Xx := Lib.hid (Xx.out.under hz)
      have XMc := Lib.hid (show Cur3 u69 u68.heap.size (.slice am nm capm) (.int .i64 r.p) (.int .i64 r.inc) by rw [← hw]; exact Cur3.new _ _ _ _ _)
      have XMr := Lib.hid (show RowZ u69 am nm capm r.zs by rw [← hw]; exact RowZ.under hr (below_box _))
      have HW := Lib.hid hw
      clear hw hz hr hx hsz
      go_upto_region 11 with fail
      try rw [HW.out]
      obtain ⟨BM, hB⟩ : ∃ B, u68.heap.size = B := ⟨_, rfl⟩
      rw [hB] at XMc
      try rw [hB]
      clear HW hB
      have OL1 := Lib.hid (fun t => form_ole Ff.out Fg.out (fun t => ole_some (show paceF pn pd ln ld t ≤ paceF bn bd ln ld t by
        have := pace_rate (rn := pn) (rd := pd) (rn' := bn) (rd' := bd) (ln := ln) (ld := ld) (by have := Opn.out; omega) (by have := OBF.out; omega) (by have := Oln.out; omega) OBF.out.2.1 t
        unfold paceF; omega)) t)
      have OL2 := Lib.hid (fun t => form_ole Fx.out Ff.out (fun t => ole_some (show paceF pn pd cn cd t ≤ paceF pn pd ln ld t by
        have := pace_late (rn := pn) (rd := pd) (ln := cn) (ld := cd) (ln' := ln) (ld' := ld) (by have := Opn.out; omega) (by have := OCF.out; omega) (by have := Oln.out; omega) OCF.out.2.1 t
        unfold paceF; omega)) t)
      obtain ⟨c0, c1, c2, c3, c4, c5⟩ := Xf.out.box
      obtain ⟨d0, d1, d2, d3, d4, d5⟩ := Xg.out.box
      go_wp2_with fail
      clear c0 c1 c2 c3 c4 c5 d0 d1 d2 d3 d4 d5
      refine (ratMost_yes _ _ _ _ _ _ Ff.out.good _ _ _ _ _ _ Fg.out.good OL1.out _ Xf.out.row Xg.out.row).mono ?_
      rintro e u70 ⟨rfl, hb⟩
      have XMc := Lib.hid (XMc.out.below hb)
      have XMr := Lib.hid (XMr.out.under hb)
      have HD := Lib.hid (HD.out.below hb)
      have XA := Lib.hid (XA.out.below hb)
      have XB := Lib.hid (XB.out.below hb)
      have XC := Lib.hid (XC.out.below hb)
      have Xf := Lib.hid (Xf.out.under hb)
      have Xg := Lib.hid (Xg.out.under hb)
      have Xx := Lib.hid (Xx.out.under hb)
      clear hb
      obtain ⟨c0, c1, c2, c3, c4, c5⟩ := Xx.out.box
      obtain ⟨d0, d1, d2, d3, d4, d5⟩ := Xf.out.box
      go_wp2_with fail
      clear c0 c1 c2 c3 c4 c5 d0 d1 d2 d3 d4 d5
      refine (ratMost_yes _ _ _ _ _ _ Fx.out.good _ _ _ _ _ _ Ff.out.good OL2.out _ Xx.out.row Xf.out.row).mono ?_
      rintro e u71 ⟨rfl, hb⟩
      have XMc := Lib.hid (XMc.out.below hb)
      have XMr := Lib.hid (XMr.out.under hb)
      have HD := Lib.hid (HD.out.below hb)
      have XA := Lib.hid (XA.out.below hb)
      have XB := Lib.hid (XB.out.below hb)
      have XC := Lib.hid (XC.out.below hb)
      have Xf := Lib.hid (Xf.out.under hb)
      have Xg := Lib.hid (Xg.out.under hb)
      have Xx := Lib.hid (Xx.out.under hb)
      clear hb
      go_upto_region 13 with fail
      rcases HBT.out with rfl | ⟨zm, pm, jm, rfl, gm, hol⟩
      · clear XMc XMr HBT
        go_wp2_with fail
        refine (awake12 _).mono ?_
        rintro e u72 ⟨rfl, hb⟩
        have HD := Lib.hid (HD.out.below hb)
        clear hb
        go_wp2_with fail
        go_ret
        exact ⟨rfl, HB1.out.trans (HD.out.ap.below (Nat.le_refl _) HB1.out.size)⟩
      · have GM := Lib.hid gm
        have HOM := Lib.hid hol
        clear gm hol HBT
        obtain ⟨m0, m1, m2, m3, m4, m5⟩ := XMc.out
        obtain ⟨c0, c1, c2, c3, c4, c5⟩ := Xf.out.box
        go_wp2_with fail
        clear c0 c1 c2 c3 c4 c5 m0 m1 m2 m3 m4 m5
        refine (ratMost_yes _ _ _ _ _ _ Ff.out.good _ _ _ _ _ _ GM.out (fun t => by rw [Ff.out.val]; exact (HOM.out t).1) _ Xf.out.row XMr.out).mono ?_
        rintro e u72 ⟨rfl, hb⟩
        have XMc := Lib.hid (XMc.out.below hb)
        have XMr := Lib.hid (XMr.out.under hb)
        have HD := Lib.hid (HD.out.below hb)
        have XA := Lib.hid (XA.out.below hb)
        have XB := Lib.hid (XB.out.below hb)
        have XC := Lib.hid (XC.out.below hb)
        have Xf := Lib.hid (Xf.out.under hb)
        have Xg := Lib.hid (Xg.out.under hb)
        have Xx := Lib.hid (Xx.out.under hb)
        clear hb
        obtain ⟨m0, m1, m2, m3, m4, m5⟩ := XMc.out
        obtain ⟨c0, c1, c2, c3, c4, c5⟩ := Xg.out.box
        go_wp2_with fail
        clear c0 c1 c2 c3 c4 c5 m0 m1 m2 m3 m4 m5
        refine (ratMost_yes _ _ _ _ _ _ Fg.out.good _ _ _ _ _ _ GM.out (fun t => by rw [Fg.out.val]; exact (HOM.out t).2.2) _ Xg.out.row XMr.out).mono ?_
        rintro e u73 ⟨rfl, hb⟩
        have XMc := Lib.hid (XMc.out.below hb)
        have XMr := Lib.hid (XMr.out.under hb)
        have HD := Lib.hid (HD.out.below hb)
        have XA := Lib.hid (XA.out.below hb)
        have XB := Lib.hid (XB.out.below hb)
        have XC := Lib.hid (XC.out.below hb)
        have Xf := Lib.hid (Xf.out.under hb)
        have Xg := Lib.hid (Xg.out.under hb)
        have Xx := Lib.hid (Xx.out.under hb)
        clear hb
        obtain ⟨m0, m1, m2, m3, m4, m5⟩ := XMc.out
        obtain ⟨c0, c1, c2, c3, c4, c5⟩ := Xx.out.box
        go_wp2_with fail
        clear c0 c1 c2 c3 c4 c5 m0 m1 m2 m3 m4 m5
        refine (ratMost_yes _ _ _ _ _ _ Fx.out.good _ _ _ _ _ _ GM.out (fun t => by rw [Fx.out.val]; exact (HOM.out t).2.1) _ Xx.out.row XMr.out).mono ?_
        rintro e u74 ⟨rfl, hb⟩
        have XMc := Lib.hid (XMc.out.below hb)
        have XMr := Lib.hid (XMr.out.under hb)
        have HD := Lib.hid (HD.out.below hb)
        have XA := Lib.hid (XA.out.below hb)
        have XB := Lib.hid (XB.out.below hb)
        have XC := Lib.hid (XC.out.below hb)
        have Xf := Lib.hid (Xf.out.under hb)
        have Xg := Lib.hid (Xg.out.under hb)
        have Xx := Lib.hid (Xx.out.under hb)
        clear hb
        go_wp2_with fail
        refine (awake12 _).mono ?_
        rintro e u75 ⟨rfl, hb⟩
        have HD := Lib.hid (HD.out.below hb)
        clear hb
        go_wp2_with fail
        go_ret
        exact ⟨rfl, HB1.out.trans (HD.out.ap.below (Nat.le_refl _) HB1.out.size)⟩

end Go.Proofs.Ytjipmkgnndldpaa
