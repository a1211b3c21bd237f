/- Least, of the program and of the document. By the verifier's side. -/
import Derived.Test.YtjipmkgnndldpaaFBkL
namespace Go.Proofs.Ytjipmkgnndldpaa
open Go.RowKit
set_option linter.unusedSimpArgs false
set_option linter.unusedVariables false

theorem RowB.at0 {u : World} {B : Nat} {bs : List Bkt} (h : RowB u B 0 bs) {i : Nat} {b : Bkt} (hc : bs[i]? = some b) :
    u.cell? ⟨B, i * 4, none⟩ = some (.int .i64 b.bn) ∧ u.cell? ⟨B, i * 4 + 1, none⟩ = some (.int .i64 b.bd) ∧ u.cell? ⟨B, i * 4 + 2, none⟩ = some (.int .i64 b.rn) ∧ u.cell? ⟨B, i * 4 + 3, none⟩ = some (.int .i64 b.rd) := by
  have := h i b hc
  rwa [Nat.zero_add] at this
def badL (bs : List Bkt) : Bool := bs.any fun b => !b.ok
theorem badL_of {bs : List Bkt} {i : Nat} {b : Bkt} (h : bs[i]? = some b) (hb : b.ok = false) : badL bs = true := by
  unfold badL; rw [List.any_eq_true]
  exact ⟨b, List.mem_of_getElem? h, by rw [hb]; rfl⟩
theorem badL_not {bs : List Bkt} (h : ∀ (i : Nat) (b : Bkt), bs[i]? = some b → b.ok = true) : badL bs = false := by
  unfold badL; rw [List.any_eq_false]
  intro b hb
  obtain ⟨i, hi, he⟩ := List.mem_iff_getElem.1 hb
  have hk : b.ok = true := h i b (by rw [← he]; exact List.getElem?_eq_getElem hi)
  rw [hk]; decide
theorem badL_ok {bs : List Bkt} (h : badL bs = false) {i : Nat} {b : Bkt} (hb : bs[i]? = some b) : b.ok = true := by
  cases hk : b.ok with
  | true => rfl
  | false => rw [badL_of hb hk] at h; cases h
theorem badL_iff (bs : List Bkt) : badL bs = true ↔ ∃ b ∈ bs, b.ok = false := by
  unfold badL; rw [List.any_eq_true]
  constructor
  · rintro ⟨b, h1, h2⟩; exact ⟨b, h1, by simpa using h2⟩
  · rintro ⟨b, h1, h2⟩; exact ⟨b, h1, by rw [h2]; rfl⟩
theorem bleastA_zero {bs : List Bkt} (h : bs.length = 0) : bleastA bs = ⟨[], 0, 0, 2⟩ := by unfold bleastA; rw [if_pos h]
theorem bleastA_long {bs : List Bkt} (h : 20 < bs.length) : bleastA bs = ⟨[], 0, 0, 3⟩ := by unfold bleastA; rw [if_neg (by omega), if_pos h]
theorem bleastA_bad {bs : List Bkt} (h0 : ¬ bs.length = 0) (h1 : ¬ 20 < bs.length) (h : badL bs = true) : bleastA bs = ⟨[], 0, 0, 2⟩ := by unfold bleastA; rw [if_neg h0, if_neg h1, if_pos ((badL_iff bs).1 h)]
theorem bleastA_fold {bs : List Bkt} (h0 : ¬ bs.length = 0) (h1 : ¬ 20 < bs.length) (h : badL bs = false) : bleastA bs = foldA bs (bs.length - 1) := by
  unfold bleastA; rw [if_neg h0, if_neg h1, if_neg (fun hx => by rw [(badL_iff bs).2 hx] at h; cases h)]

/-! ## lowered -/

theorem nextA_stop {r : Rs} {b : Bkt} (h : ¬ r.c = 0) : nextA r b = r := by unfold nextA; rw [if_neg h]
theorem nextA_bad {r : Rs} {b : Bkt} (h : r.c = 0) (h1 : ¬ (pasA b).c = 0) : nextA r b = ⟨[], 0, 0, (pasA b).c⟩ := by unfold nextA; rw [if_pos h, if_neg h1]
theorem nextA_min {r : Rs} {b : Bkt} (h : r.c = 0) (h1 : (pasA b).c = 0) : nextA r b = minA r (pasA b) := by unfold nextA; rw [if_pos h, if_pos h1]
set_option maxRecDepth 100000 in
set_option maxHeartbeats 1600000 in
theorem lowered_any {r : Rs} (hr : r.ok) (h0 : r.c = 0) {b : Bkt} (hb : b.ok = true) (a : Option Addr) (n cap : Nat) (w : World) (hrow : RowZ w a n cap r.zs) :
    Calls Try.prog 187 #[curV a n cap r.p r.inc, bucketV b.bn b.bd b.rn b.rd] w (GivesCE (nextA r b).zs (nextA r b).p (nextA r b).inc (nextA r b).c w) := by
  obtain ⟨z1, q1, hz1, hq1, g1⟩ : ∃ (zs : List Int) (q : Nat), r.zs = zs ∧ r.p = q ∧ Good zs q r.inc := by
    rcases hr with ⟨_, q, hq, g⟩ | ⟨h, _⟩
    · exact ⟨r.zs, q, rfl, hq, g⟩
    · exact absurd h0 h
  obtain ⟨i1, hi1⟩ : ∃ i, r.inc = i := ⟨_, rfl⟩
  obtain ⟨W, hW⟩ : ∃ W, ((w.alloc (.cells #[.slice a n cap, .int .i64 q1, .int .i64 i1] 38)).alloc (.cells #[.int .i64 b.bn, .int .i64 b.bd, .int .i64 b.rn, .int .i64 b.rd] 46)).alloc (.cells #[.slice none 0 0, .int .i64 0, .int .i64 0] 38) = W := ⟨_, rfl⟩
  have hB : Below w.heap.size w W := by rw [← hW]; exact (((Below.refl _ _).alloc (Nat.le_refl _) _).alloc (by simp) _).alloc (by simp; omega) _
  have X0 := Lib.hid (show Bx W w.heap.size a n cap q1 i1 z1 by
    rw [← hW, ← hz1]
    exact (Bx.new hrow).under (((Below.refl _ _).alloc (Nat.le_refl _) _).alloc (by simp) _))
  have X1 := Lib.hid (show Bk4 W (w.heap.size + 1) b.bn b.bd b.rn b.rd by
    rw [← hW]
    have := (Bk4.new (w.alloc (.cells #[.slice a n cap, .int .i64 q1, .int .i64 i1] 38)) b.bn b.bd b.rn b.rd 46).alloc (.cells #[.slice none 0 0, .int .i64 0, .int .i64 0] 38)
    rwa [show (w.alloc (.cells #[.slice a n cap, .int .i64 q1, .int .i64 i1] 38)).heap.size = w.heap.size + 1 by simp] at this)
  have X2 := Lib.hid (show Cur3 W (w.heap.size + 2) (.slice none 0 0) (.int .i64 0) (.int .i64 0) by
    rw [← hW]
    have := Cur3.new ((w.alloc (.cells #[.slice a n cap, .int .i64 q1, .int .i64 i1] 38)).alloc (.cells #[.int .i64 b.bn, .int .i64 b.bd, .int .i64 b.rn, .int .i64 b.rd] 46)) (.slice none 0 0) (.int .i64 0) (.int .i64 0) 38
    rwa [show ((w.alloc (.cells #[.slice a n cap, .int .i64 q1, .int .i64 i1] 38)).alloc (.cells #[.int .i64 b.bn, .int .i64 b.bd, .int .i64 b.rn, .int .i64 b.rd] 46)).heap.size = w.heap.size + 2 by simp] at this)
  have HB := Lib.hid hB
  have HW := Lib.hid hW
  have HG := Lib.hid (And.intro g1 hb)
  obtain ⟨s, hs⟩ : ∃ s, pasA b = s := ⟨_, rfl⟩
  have HP := Lib.hid (show ∀ u, Calls Try.prog 115 #[bucketV b.bn b.bd b.rn b.rd] u (GivesCE s.zs s.p s.inc s.c u) from fun u => by rw [← hs]; exact passed_rs hb u)
  have HSO := Lib.hid (show s.ok by rw [← hs]; exact (pasA_is b).ok)
  have HN := Lib.hid (show (¬ s.c = 0 → nextA r b = ⟨[], 0, 0, s.c⟩) ∧ (s.c = 0 → nextA r b = minA r s) from ⟨fun h => by rw [← hs] at h ⊢; exact nextA_bad h0 h, fun h => by rw [← hs] at h ⊢; exact nextA_min h0 h⟩)
  have HMI := Lib.hid (minA_is r s)
  rw [hq1, hi1]
  have HE := Lib.hid (And.intro hz1 (And.intro hq1 hi1))
  rw [hi1] at HG
  clear hr hb hrow hz1 hq1 g1 hi1 hB hW hs
  obtain ⟨t, ht⟩ : ∃ t, nextA r b = t := ⟨_, rfl⟩
  rw [ht] at HN ⊢
  clear ht
  go_enter Try.func187, Try.ntmps187
  go_upto_region 1 with fail
  rw [HW.out]
  clear HW
  obtain ⟨c0, c1, c2, c3⟩ := X1.out
  go_wp2_with fail
  clear c0 c1 c2 c3
  refine (HP.out _).mono ?_
  rintro e u1 ⟨a2, n2, cap2, rfl, hb, hr2, hx2⟩
  obtain ⟨u2, hw⟩ : ∃ w', u1.alloc (.cells #[.slice a2 n2 cap2, .int .i64 s.p, .int .i64 s.inc] 38) = w' := ⟨_, rfl⟩
  have hz : Below W.heap.size W u2 := by rw [← hw]; exact hb.trans ((below_box _).mono hb.size)
  have Y0 := Lib.hid (X0.out.under hz)
  have Y2 := Lib.hid (X2.out.below hz)
  have HB2 := Lib.hid (HB.out.trans (hz.mono HB.out.size))
  have YR := Lib.hid (show RowZ u2 a2 n2 cap2 s.zs by rw [← hw]; exact hr2.under (below_box _))
  have YC := Lib.hid (show Cur3 u2 u1.heap.size (.slice a2 n2 cap2) (.int .i64 s.p) (.int .i64 s.inc) by rw [← hw]; exact Cur3.new _ _ _ _ _)
  have HW := Lib.hid hw
  clear hb hr2 hx2 hw hz X0 X1 X2
  go_upto_region 2 with fail
  try rw [HW.out]
  obtain ⟨G, hG⟩ : ∃ B, u1.heap.size = B := ⟨_, rfl⟩
  rw [hG] at YC
  try rw [hG]
  clear HW hG
  by_cases hc : s.c = 0
  · obtain ⟨q2, hq2, g2⟩ : ∃ q : Nat, s.p = q ∧ Good s.zs q s.inc := by
      rcases HSO.out with ⟨_, q, hq, g⟩ | ⟨h, _⟩
      · exact ⟨q, hq, g⟩
      · exact absurd hc h
    have HM := Lib.hid (show MinIs z1 q1 i1 s.zs q2 s.inc t.zs t.p t.inc t.c by
      have h := HMI.out q1 q2 HE.out.2.1 hq2 (by rw [HE.out.1, HE.out.2.2]; exact HG.out.1) g2
      rw [← HN.out.2 hc, HE.out.1, HE.out.2.2] at h
      exact h)
    have HG2 := Lib.hid g2
    rw [hq2] at YC
    have ec : (s.c == 0) = true := by rw [hc]; rfl
    have ec2 : (s.c != 0) = false := by rw [hc]; rfl
    have hpos := YC.out.lt
    obtain ⟨c0, c1, c2, c3, c4, c5⟩ := Y0.out.box
    obtain ⟨d0, d1, d2, d3, d4, d5⟩ := YC.out
    clear hq2 g2
    go_wp2_with fail
    clear c0 c1 c2 c3 c4 c5 d0 d1 d2 d3 d4 d5
    refine (min_ce HG.out.1 HG2.out HM.out _ Y0.out.row YR.out).mono ?_
    rintro e u3 ⟨a3, n3, cap3, rfl, hb, hr3, hx3⟩
    have HQ := Lib.hid (GivesCE.post (b := w.heap.size + 2) (p := t.p) (inc := t.inc) (c := t.c) HB2.out (by omega) Y2.out.lt hb hr3 hx3)
    obtain ⟨e0, e1, e2, e3, e4, e5⟩ := Y2.out.below hb
    clear hb hr3 hx3
    go_wp2_with fail
    exact bodyPost_ret (v := .tuple #[curV a3 n3 cap3 t.p t.inc, .int .i64 t.c]) (by simp [results, Try.results187, go_sem, e0, e1, e2]) rfl HQ.out
  · have HT := Lib.hid (HN.out.1 hc)
    have ec : (s.c == 0) = false := by simpa using hc
    have ec2 : (s.c != 0) = true := by simpa using hc
    obtain ⟨e0, e1, e2, e3, e4, e5⟩ := Y2.out
    go_wp2_with fail
    refine bodyPost_ret (v := .tuple #[curV none 0 0 0 0, .int .i64 s.c]) (by simp [results, Try.results187, go_sem, e0, e1, e2]) rfl ?_
    rw [HT.out]
    exact GivesCE.postBad (b := w.heap.size + 2) HB2.out (by omega) s.c

end Go.Proofs.Ytjipmkgnndldpaa
