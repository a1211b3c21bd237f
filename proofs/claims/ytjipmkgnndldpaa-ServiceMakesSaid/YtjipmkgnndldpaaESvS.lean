/- The document's Wait. By the verifier's side. -/
import Derived.Test.YtjipmkgnndldpaaESvLSvCSvD
import Derived.Test.YtjipmkgnndldpaaESvRSvTSvUSvX
namespace Go.Proofs.Ytjipmkgnndldpaa
open Go.RowKit
set_option linter.unusedSimpArgs false
set_option linter.unusedVariables false

theorem newF_err (a b : Int) (h : ¬ (newF a b).2.2 = 0) : (newF a b).1 = 0 ∧ (newF a b).2.1 = 0 := by
  revert h
  unfold newF
  repeat' split
  all_goals first | (intro _; exact ⟨rfl, rfl⟩) | (intro h; exact absurd rfl h)
theorem divF_err {a b c d xn xd xe : Int} (h : divF a b c d = (xn, xd, xe)) (he : ¬ xe = 0) : xn = 0 ∧ xd = 0 := by
  unfold divF at h
  split at h
  · have := newF_err (a * d) (b * c) (by rw [h]; exact he)
    rw [h] at this; exact this
  · cases h; exact ⟨rfl, rfl⟩
theorem addF_err {a b c d xn xd xe : Int} (h : addF a b c d = (xn, xd, xe)) (he : ¬ xe = 0) : xn = 0 ∧ xd = 0 := by
  unfold addF at h
  split at h
  · have := newF_err (a * d + c * b) (b * d) (by rw [h]; exact he)
    rw [h] at this; exact this
  · cases h; exact ⟨rfl, rfl⟩
theorem subF_err {a b c d xn xd xe : Int} (h : subF a b c d = (xn, xd, xe)) (he : ¬ xe = 0) : xn = 0 ∧ xd = 0 := by
  unfold subF at h
  split at h
  · have := newF_err (a * d - c * b) (b * d) (by rw [h]; exact he)
    rw [h] at this; exact this
  · cases h; exact ⟨rfl, rfl⟩

set_option maxRecDepth 100000 in
set_option maxHeartbeats 3200000 in
theorem rwait_any (bn bd an ad rn rd ln ld : Int) (w : World) :
    Calls Try.prog 29 #[bucketV bn bd an ad, bucketV rn rd ln ld] w (Gave (waitA bn bd an ad rn rd ln ld) w) := by
  obtain ⟨W, hW⟩ : ∃ W, ((w.alloc (.cells #[.int .i64 bn, .int .i64 bd, .int .i64 an, .int .i64 ad] 46)).alloc (.cells #[.int .i64 rn, .int .i64 rd, .int .i64 ln, .int .i64 ld] 25)).alloc (.cells #[.int .i64 0, .int .i64 0] 23) = W := ⟨_, rfl⟩
  have HX := Lib.hid (show Wt w bn bd an ad rn rd ln ld W by rw [← hW]; exact Wt.start w bn bd an ad rn rd ln ld _ _ _)
  have HW := Lib.hid hW
  clear hW
  obtain ⟨k, hk⟩ : ∃ k, waitA bn bd an ad rn rd ln ld = k := ⟨_, rfl⟩
  rw [hk]
  unfold waitA at hk
  cases h1 : (okB bn bd && okB an ad) with
  | false =>
    rw [h1] at hk
    rw [if_neg (by simp)] at hk
    subst hk
    have H1 := Lib.hid h1
    clear h1
    go_enter Try.func29, Try.ntmps29
    go_upto_region 1 with fail
    rw [HW.out]
    clear HW
    obtain ⟨a0, a1, a2, a3⟩ := HX.out.x
    go_wp2_with fail
    clear a0 a1 a2 a3
    refine (rgood2_any bn bd an ad _ H1.out _).mono ?_
    rintro e u1 ⟨rfl, hb⟩
    have HX1 := Lib.hid (HX.out.call hb)
    clear hb
    obtain ⟨e0, e1, e2, e3⟩ := HX1.out.r
    go_wp2_with fail
    exact bodyPost_ret (v := .tuple #[.agg #[.int .i64 0, .int .i64 0], .int .i64 2]) (by simp [results, Try.results29, go_sem, e0, e1, e2, e3]) rfl ⟨rfl, (HX1.out.below.setCell (by show w.heap.size ≤ w.heap.size + 2; omega) _).setCell (by show w.heap.size ≤ w.heap.size + 2; omega) _⟩
  | true =>
  cases h3 : (okB rn rd && okB ln ld) with
  | false =>
    rw [h1, h3] at hk
    rw [if_neg (by simp)] at hk
    subst hk
    have H1 := Lib.hid h1
    have H3 := Lib.hid h3
    clear h1 h3
    go_enter Try.func29, Try.ntmps29
    go_upto_region 1 with fail
    rw [HW.out]
    clear HW
    obtain ⟨a0, a1, a2, a3⟩ := HX.out.x
    go_wp2_with fail
    clear a0 a1 a2 a3
    refine (rgood2_any bn bd an ad _ H1.out _).mono ?_
    rintro e u1 ⟨rfl, hb⟩
    have HX1 := Lib.hid (HX.out.call hb)
    clear hb
    obtain ⟨b0, b1, b2, b3⟩ := HX1.out.y
    go_wp2_with fail
    clear b0 b1 b2 b3
    refine (rgood2_any rn rd ln ld _ H3.out _).mono ?_
    rintro e u3 ⟨rfl, hb⟩
    have HX3 := Lib.hid (HX1.out.call hb)
    clear hb
    obtain ⟨e0, e1, e2, e3⟩ := HX3.out.r
    go_wp2_with fail
    exact bodyPost_ret (v := .tuple #[.agg #[.int .i64 0, .int .i64 0], .int .i64 2]) (by simp [results, Try.results29, go_sem, e0, e1, e2, e3]) rfl ⟨rfl, (HX3.out.below.setCell (by show w.heap.size ≤ w.heap.size + 2; omega) _).setCell (by show w.heap.size ≤ w.heap.size + 2; omega) _⟩
  | true =>
  rw [h1, h3] at hk
  rw [if_pos (by rfl)] at hk
  have H1 := Lib.hid h1
  have H3 := Lib.hid h3
  clear h1 h3
  obtain ⟨cm, hcm⟩ : ∃ c, compareF an ad rn rd = c := ⟨_, rfl⟩
  rw [hcm] at hk
  have HC := Lib.hid hcm
  clear hcm
  by_cases hc : 0 < cm
  · rw [if_pos (.inr hc)] at hk
    subst hk
    have hcd : decide (0 < cm) = true := decide_eq_true hc
    go_enter Try.func29, Try.ntmps29
    go_upto_region 1 with fail
    rw [HW.out]
    clear HW
    obtain ⟨a0, a1, a2, a3⟩ := HX.out.x
    go_wp2_with fail
    clear a0 a1 a2 a3
    refine (rgood2_any bn bd an ad _ H1.out _).mono ?_
    rintro e u1 ⟨rfl, hb⟩
    have HX1 := Lib.hid (HX.out.call hb)
    clear hb
    obtain ⟨b0, b1, b2, b3⟩ := HX1.out.y
    go_wp2_with fail
    clear b0 b1 b2 b3
    refine (rgood2_any rn rd ln ld _ H3.out _).mono ?_
    rintro e u3 ⟨rfl, hb⟩
    have HX3 := Lib.hid (HX1.out.call hb)
    clear hb
    obtain ⟨a0, a1, a2, a3⟩ := HX3.out.x
    obtain ⟨b0, b1, b2, b3⟩ := HX3.out.y
    go_wp2_with fail
    clear a0 a1 a2 a3 b0 b1 b2 b3
    refine (rcompare_all an ad rn rd _).mono ?_
    rintro e u4 ⟨rfl, hb⟩
    rw [HC.out]
    have HX4 := Lib.hid (HX3.out.call hb)
    clear hb
    obtain ⟨b0, b1, b2, b3⟩ := HX4.out.y
    obtain ⟨e0, e1, e2, e3⟩ := HX4.out.r
    go_wp2_with fail
    exact bodyPost_ret (v := .tuple #[.agg #[.int .i64 0, .int .i64 0], .int .i64 5]) (by simp [results, Try.results29, go_sem, e0, e1, e2, e3]) rfl ⟨rfl, (HX4.out.below.setCell (by show w.heap.size ≤ w.heap.size + 2; omega) _).setCell (by show w.heap.size ≤ w.heap.size + 2; omega) _⟩
  have hcd : decide (0 < cm) = false := decide_eq_false hc
  by_cases h0 : rn = 0
  · rw [if_pos (.inl h0)] at hk
    subst hk
    have h0b : (rn == 0) = true := by simpa using h0
    clear h0
    go_enter Try.func29, Try.ntmps29
    go_upto_region 1 with fail
    rw [HW.out]
    clear HW
    obtain ⟨a0, a1, a2, a3⟩ := HX.out.x
    go_wp2_with fail
    clear a0 a1 a2 a3
    refine (rgood2_any bn bd an ad _ H1.out _).mono ?_
    rintro e u1 ⟨rfl, hb⟩
    have HX1 := Lib.hid (HX.out.call hb)
    clear hb
    obtain ⟨b0, b1, b2, b3⟩ := HX1.out.y
    go_wp2_with fail
    clear b0 b1 b2 b3
    refine (rgood2_any rn rd ln ld _ H3.out _).mono ?_
    rintro e u3 ⟨rfl, hb⟩
    have HX3 := Lib.hid (HX1.out.call hb)
    clear hb
    obtain ⟨a0, a1, a2, a3⟩ := HX3.out.x
    obtain ⟨b0, b1, b2, b3⟩ := HX3.out.y
    go_wp2_with fail
    clear a0 a1 a2 a3 b0 b1 b2 b3
    refine (rcompare_all an ad rn rd _).mono ?_
    rintro e u4 ⟨rfl, hb⟩
    rw [HC.out]
    have HX4 := Lib.hid (HX3.out.call hb)
    clear hb
    obtain ⟨b0, b1, b2, b3⟩ := HX4.out.y
    obtain ⟨e0, e1, e2, e3⟩ := HX4.out.r
    go_wp2_with fail
    exact bodyPost_ret (v := .tuple #[.agg #[.int .i64 0, .int .i64 0], .int .i64 5]) (by simp [results, Try.results29, go_sem, e0, e1, e2, e3]) rfl ⟨rfl, (HX4.out.below.setCell (by show w.heap.size ≤ w.heap.size + 2; omega) _).setCell (by show w.heap.size ≤ w.heap.size + 2; omega) _⟩
  have h0b : (rn == 0) = false := by simpa using h0
  rw [if_neg (by rintro (h | h); exact h0 h; exact hc h)] at hk
  unfold waitS at hk
  obtain ⟨x, hx⟩ : ∃ x, divF bn bd rn rd = x := ⟨_, rfl⟩
  obtain ⟨xn, xd, xe⟩ := x
  rw [hx] at hk
  dsimp only at hk
  have HD := Lib.hid hx
  clear hx
  by_cases e0 : xe = 0
  rotate_left
  · rw [if_neg e0] at hk
    subst hk
    have e0b : (xe == 0) = false := by simpa using e0
    have e0c : (xe != 0) = true := by simpa using e0
    have HZE := Lib.hid (divF_err HD.out e0)
    go_enter Try.func29, Try.ntmps29
    go_upto_region 1 with fail
    rw [HW.out]
    clear HW
    obtain ⟨a0, a1, a2, a3⟩ := HX.out.x
    go_wp2_with fail
    clear a0 a1 a2 a3
    refine (rgood2_any bn bd an ad _ H1.out _).mono ?_
    rintro e u1 ⟨rfl, hb⟩
    have HX1 := Lib.hid (HX.out.call hb)
    clear hb
    obtain ⟨b0, b1, b2, b3⟩ := HX1.out.y
    go_wp2_with fail
    clear b0 b1 b2 b3
    refine (rgood2_any rn rd ln ld _ H3.out _).mono ?_
    rintro e u3 ⟨rfl, hb⟩
    have HX3 := Lib.hid (HX1.out.call hb)
    clear hb
    obtain ⟨a0, a1, a2, a3⟩ := HX3.out.x
    obtain ⟨b0, b1, b2, b3⟩ := HX3.out.y
    go_wp2_with fail
    clear a0 a1 a2 a3 b0 b1 b2 b3
    refine (rcompare_all an ad rn rd _).mono ?_
    rintro e u4 ⟨rfl, hb⟩
    rw [HC.out]
    have HX4 := Lib.hid (HX3.out.call hb)
    clear hb
    obtain ⟨b0, b1, b2, b3⟩ := HX4.out.y
    go_upto_region 5 with fail
    obtain ⟨a0, a1, a2, a3⟩ := HX4.out.x
    go_wp2_with fail
    clear a0 a1 a2 a3 b0 b1 b2 b3
    refine (rdiv_all bn bd rn rd _).mono ?_
    rintro e v1 ⟨he, hb⟩
    rw [HD.out] at he
    subst he
    obtain ⟨u5, hw⟩ : ∃ w', v1.alloc (.cells #[.int .i64 xn, .int .i64 xd] 23) = w' := ⟨_, rfl⟩
    have hz : Below u4.heap.size u4 u5 := by rw [← hw]; exact hb.trans ((below_box _).mono hb.size)
    have HX5 := Lib.hid (HX4.out.call hz)
    have XG5 := Lib.hid (show Box u5 v1.heap.size xn xd by rw [← hw]; exact Box.new _ _ _ _)
    have HSZ := Lib.hid (show w.heap.size + 2 < v1.heap.size from Nat.lt_of_lt_of_le HX4.out.r.lt hb.size)
    have HW := Lib.hid hw
    clear hb hw hz
    go_upto_region 6 with fail
    try rw [HW.out]
    obtain ⟨G, hG⟩ : ∃ B, v1.heap.size = B := ⟨_, rfl⟩
    rw [hG] at XG5 HSZ
    try rw [hG]
    clear HW hG
    obtain ⟨s0, s1, s2, s3⟩ := XG5.out
    obtain ⟨e0, e1, e2, e3⟩ := HX5.out.r
    go_wp2_with fail
    exact bodyPost_ret (v := .tuple #[.agg #[.int .i64 0, .int .i64 0], .int .i64 xe]) (by simp [results, Try.results29, go_sem, e0, e1, e2, e3]) rfl ⟨by rw [HZE.out.1, HZE.out.2], (HX5.out.below.setCell (by show w.heap.size ≤ w.heap.size + 2; omega) _).setCell (by show w.heap.size ≤ w.heap.size + 2; omega) _⟩
  subst e0
  rw [if_pos rfl] at hk
  obtain ⟨y, hy⟩ : ∃ y, addF xn xd ln ld = y := ⟨_, rfl⟩
  obtain ⟨yn, yd, ye⟩ := y
  rw [hy] at hk
  dsimp only at hk
  have HY := Lib.hid hy
  clear hy
  by_cases e1 : ye = 0
  rotate_left
  · rw [if_neg e1] at hk
    subst hk
    have e1b : (ye == 0) = false := by simpa using e1
    have e1c : (ye != 0) = true := by simpa using e1
    have HZE := Lib.hid (addF_err HY.out e1)
    go_enter Try.func29, Try.ntmps29
    go_upto_region 1 with fail
    rw [HW.out]
    clear HW
    obtain ⟨a0, a1, a2, a3⟩ := HX.out.x
    go_wp2_with fail
    clear a0 a1 a2 a3
    refine (rgood2_any bn bd an ad _ H1.out _).mono ?_
    rintro e u1 ⟨rfl, hb⟩
    have HX1 := Lib.hid (HX.out.call hb)
    clear hb
    obtain ⟨b0, b1, b2, b3⟩ := HX1.out.y
    go_wp2_with fail
    clear b0 b1 b2 b3
    refine (rgood2_any rn rd ln ld _ H3.out _).mono ?_
    rintro e u3 ⟨rfl, hb⟩
    have HX3 := Lib.hid (HX1.out.call hb)
    clear hb
    obtain ⟨a0, a1, a2, a3⟩ := HX3.out.x
    obtain ⟨b0, b1, b2, b3⟩ := HX3.out.y
    go_wp2_with fail
    clear a0 a1 a2 a3 b0 b1 b2 b3
    refine (rcompare_all an ad rn rd _).mono ?_
    rintro e u4 ⟨rfl, hb⟩
    rw [HC.out]
    have HX4 := Lib.hid (HX3.out.call hb)
    clear hb
    obtain ⟨b0, b1, b2, b3⟩ := HX4.out.y
    go_upto_region 5 with fail
    obtain ⟨a0, a1, a2, a3⟩ := HX4.out.x
    go_wp2_with fail
    clear a0 a1 a2 a3 b0 b1 b2 b3
    refine (rdiv_all bn bd rn rd _).mono ?_
    rintro e v1 ⟨he, hb⟩
    rw [HD.out] at he
    subst he
    obtain ⟨u5, hw⟩ : ∃ w', v1.alloc (.cells #[.int .i64 xn, .int .i64 xd] 23) = w' := ⟨_, rfl⟩
    have hz : Below u4.heap.size u4 u5 := by rw [← hw]; exact hb.trans ((below_box _).mono hb.size)
    have HX5 := Lib.hid (HX4.out.call hz)
    have XG5 := Lib.hid (show Box u5 v1.heap.size xn xd by rw [← hw]; exact Box.new _ _ _ _)
    have HSZ := Lib.hid (show w.heap.size + 2 < v1.heap.size from Nat.lt_of_lt_of_le HX4.out.r.lt hb.size)
    have HW := Lib.hid hw
    clear hb hw hz
    go_upto_region 6 with fail
    try rw [HW.out]
    obtain ⟨G, hG⟩ : ∃ B, v1.heap.size = B := ⟨_, rfl⟩
    rw [hG] at XG5 HSZ
    try rw [hG]
    clear HW hG
    obtain ⟨b0, b1, b2, b3⟩ := HX5.out.y
    obtain ⟨s0, s1, _, _⟩ := XG5.out
    go_wp2_with fail
    clear s0 s1
    refine (radd_all xn xd ln ld _).mono ?_
    rintro e v5 ⟨he, hb⟩
    rw [HY.out] at he
    subst he
    obtain ⟨u6, hw⟩ : ∃ w', (v5.setCell ⟨G, 0, none⟩ (.int .i64 yn)).setCell ⟨G, 1, none⟩ (.int .i64 yd) = w' := ⟨_, rfl⟩
    have HX6 := Lib.hid (show Wt w bn bd an ad rn rd ln ld u6 by rw [← hw]; exact (HX5.out.call hb).put HSZ.out _ _)
    have XG6 := Lib.hid (show Box u6 G yn yd by rw [← hw]; exact (XG5.out.below hb).set _ _)
    obtain ⟨s0, s1, s2, s3⟩ := XG5.out.below hb
    have HW := Lib.hid hw
    clear hb hw
    go_upto_region 8 with fail
    try rw [HW.out]
    clear HW s0 s1 s2 s3
    obtain ⟨s0, s1, s2, s3⟩ := XG6.out
    obtain ⟨e0, e1, e2, e3⟩ := HX6.out.r
    go_wp2_with fail
    exact bodyPost_ret (v := .tuple #[.agg #[.int .i64 0, .int .i64 0], .int .i64 ye]) (by simp [results, Try.results29, go_sem, e0, e1, e2, e3]) rfl ⟨by rw [HZE.out.1, HZE.out.2], (HX6.out.below.setCell (by show w.heap.size ≤ w.heap.size + 2; omega) _).setCell (by show w.heap.size ≤ w.heap.size + 2; omega) _⟩
  subst e1
  rw [if_pos rfl] at hk
  have HYN := Lib.hid (show In64 1 from ⟨by decide, by decide⟩)
  obtain ⟨z, hz⟩ : ∃ z, subF yn yd 1 1 = z := ⟨_, rfl⟩
  obtain ⟨zn, zd, ze⟩ := z
  rw [hz] at hk
  dsimp only at hk
  have HZ := Lib.hid hz
  clear hz
  by_cases e2 : ze = 0
  rotate_left
  · rw [if_neg (fun h => e2 h.1)] at hk
    subst hk
    have e2b : (ze == 0) = false := by simpa using e2
    have e2c : (ze != 0) = true := by simpa using e2
    have HZE := Lib.hid (subF_err HZ.out e2)
    go_enter Try.func29, Try.ntmps29
    go_upto_region 1 with fail
    rw [HW.out]
    clear HW
    obtain ⟨a0, a1, a2, a3⟩ := HX.out.x
    go_wp2_with fail
    clear a0 a1 a2 a3
    refine (rgood2_any bn bd an ad _ H1.out _).mono ?_
    rintro e u1 ⟨rfl, hb⟩
    have HX1 := Lib.hid (HX.out.call hb)
    clear hb
    obtain ⟨b0, b1, b2, b3⟩ := HX1.out.y
    go_wp2_with fail
    clear b0 b1 b2 b3
    refine (rgood2_any rn rd ln ld _ H3.out _).mono ?_
    rintro e u3 ⟨rfl, hb⟩
    have HX3 := Lib.hid (HX1.out.call hb)
    clear hb
    obtain ⟨a0, a1, a2, a3⟩ := HX3.out.x
    obtain ⟨b0, b1, b2, b3⟩ := HX3.out.y
    go_wp2_with fail
    clear a0 a1 a2 a3 b0 b1 b2 b3
    refine (rcompare_all an ad rn rd _).mono ?_
    rintro e u4 ⟨rfl, hb⟩
    rw [HC.out]
    have HX4 := Lib.hid (HX3.out.call hb)
    clear hb
    obtain ⟨b0, b1, b2, b3⟩ := HX4.out.y
    go_upto_region 5 with fail
    obtain ⟨a0, a1, a2, a3⟩ := HX4.out.x
    go_wp2_with fail
    clear a0 a1 a2 a3 b0 b1 b2 b3
    refine (rdiv_all bn bd rn rd _).mono ?_
    rintro e v1 ⟨he, hb⟩
    rw [HD.out] at he
    subst he
    obtain ⟨u5, hw⟩ : ∃ w', v1.alloc (.cells #[.int .i64 xn, .int .i64 xd] 23) = w' := ⟨_, rfl⟩
    have hz : Below u4.heap.size u4 u5 := by rw [← hw]; exact hb.trans ((below_box _).mono hb.size)
    have HX5 := Lib.hid (HX4.out.call hz)
    have XG5 := Lib.hid (show Box u5 v1.heap.size xn xd by rw [← hw]; exact Box.new _ _ _ _)
    have HSZ := Lib.hid (show w.heap.size + 2 < v1.heap.size from Nat.lt_of_lt_of_le HX4.out.r.lt hb.size)
    have HW := Lib.hid hw
    clear hb hw hz
    go_upto_region 6 with fail
    try rw [HW.out]
    obtain ⟨G, hG⟩ : ∃ B, v1.heap.size = B := ⟨_, rfl⟩
    rw [hG] at XG5 HSZ
    try rw [hG]
    clear HW hG
    obtain ⟨b0, b1, b2, b3⟩ := HX5.out.y
    obtain ⟨s0, s1, _, _⟩ := XG5.out
    go_wp2_with fail
    clear s0 s1
    refine (radd_all xn xd ln ld _).mono ?_
    rintro e v5 ⟨he, hb⟩
    rw [HY.out] at he
    subst he
    obtain ⟨u6, hw⟩ : ∃ w', (v5.setCell ⟨G, 0, none⟩ (.int .i64 yn)).setCell ⟨G, 1, none⟩ (.int .i64 yd) = w' := ⟨_, rfl⟩
    have HX6 := Lib.hid (show Wt w bn bd an ad rn rd ln ld u6 by rw [← hw]; exact (HX5.out.call hb).put HSZ.out _ _)
    have XG6 := Lib.hid (show Box u6 G yn yd by rw [← hw]; exact (XG5.out.below hb).set _ _)
    obtain ⟨s0, s1, s2, s3⟩ := XG5.out.below hb
    have HW := Lib.hid hw
    clear hb hw
    go_upto_region 8 with fail
    try rw [HW.out]
    clear HW s0 s1 s2 s3
    clear b0 b1 b2 b3
    obtain ⟨s0, s1, _, _⟩ := XG6.out
    go_wp2_with fail
    clear s0 s1
    refine (rsub_all yn yd 1 1 HYN.out _).mono ?_
    rintro e v6 ⟨he, hb⟩
    rw [HZ.out] at he
    subst he
    obtain ⟨u7, hw⟩ : ∃ w', (v6.setCell ⟨G, 0, none⟩ (.int .i64 zn)).setCell ⟨G, 1, none⟩ (.int .i64 zd) = w' := ⟨_, rfl⟩
    have HX7 := Lib.hid (show Wt w bn bd an ad rn rd ln ld u7 by rw [← hw]; exact (HX6.out.call hb).put HSZ.out _ _)
    have XG7 := Lib.hid (show Box u7 G zn zd by rw [← hw]; exact (XG6.out.below hb).set _ _)
    obtain ⟨s0, s1, s2, s3⟩ := XG6.out.below hb
    have HW := Lib.hid hw
    clear hb hw
    go_upto_region 10 with fail
    try rw [HW.out]
    clear HW s0 s1 s2 s3
    obtain ⟨s0, s1, s2, s3⟩ := XG7.out
    obtain ⟨e0, e1, e2, e3⟩ := HX7.out.r
    go_wp2_with fail
    exact bodyPost_ret (v := .tuple #[.agg #[.int .i64 0, .int .i64 0], .int .i64 ze]) (by simp [results, Try.results29, go_sem, e0, e1, e2, e3]) rfl ⟨by rw [HZE.out.1, HZE.out.2], (HX7.out.below.setCell (by show w.heap.size ≤ w.heap.size + 2; omega) _).setCell (by show w.heap.size ≤ w.heap.size + 2; omega) _⟩
  subst e2
  by_cases e3 : zn < 0
  · rw [if_pos ⟨rfl, e3⟩] at hk
    subst hk
    go_enter Try.func29, Try.ntmps29
    go_upto_region 1 with fail
    rw [HW.out]
    clear HW
    obtain ⟨a0, a1, a2, a3⟩ := HX.out.x
    go_wp2_with fail
    clear a0 a1 a2 a3
    refine (rgood2_any bn bd an ad _ H1.out _).mono ?_
    rintro e u1 ⟨rfl, hb⟩
    have HX1 := Lib.hid (HX.out.call hb)
    clear hb
    obtain ⟨b0, b1, b2, b3⟩ := HX1.out.y
    go_wp2_with fail
    clear b0 b1 b2 b3
    refine (rgood2_any rn rd ln ld _ H3.out _).mono ?_
    rintro e u3 ⟨rfl, hb⟩
    have HX3 := Lib.hid (HX1.out.call hb)
    clear hb
    obtain ⟨a0, a1, a2, a3⟩ := HX3.out.x
    obtain ⟨b0, b1, b2, b3⟩ := HX3.out.y
    go_wp2_with fail
    clear a0 a1 a2 a3 b0 b1 b2 b3
    refine (rcompare_all an ad rn rd _).mono ?_
    rintro e u4 ⟨rfl, hb⟩
    rw [HC.out]
    have HX4 := Lib.hid (HX3.out.call hb)
    clear hb
    obtain ⟨b0, b1, b2, b3⟩ := HX4.out.y
    go_upto_region 5 with fail
    obtain ⟨a0, a1, a2, a3⟩ := HX4.out.x
    go_wp2_with fail
    clear a0 a1 a2 a3 b0 b1 b2 b3
    refine (rdiv_all bn bd rn rd _).mono ?_
    rintro e v1 ⟨he, hb⟩
    rw [HD.out] at he
    subst he
    obtain ⟨u5, hw⟩ : ∃ w', v1.alloc (.cells #[.int .i64 xn, .int .i64 xd] 23) = w' := ⟨_, rfl⟩
    have hz : Below u4.heap.size u4 u5 := by rw [← hw]; exact hb.trans ((below_box _).mono hb.size)
    have HX5 := Lib.hid (HX4.out.call hz)
    have XG5 := Lib.hid (show Box u5 v1.heap.size xn xd by rw [← hw]; exact Box.new _ _ _ _)
    have HSZ := Lib.hid (show w.heap.size + 2 < v1.heap.size from Nat.lt_of_lt_of_le HX4.out.r.lt hb.size)
    have HW := Lib.hid hw
    clear hb hw hz
    go_upto_region 6 with fail
    try rw [HW.out]
    obtain ⟨G, hG⟩ : ∃ B, v1.heap.size = B := ⟨_, rfl⟩
    rw [hG] at XG5 HSZ
    try rw [hG]
    clear HW hG
    obtain ⟨b0, b1, b2, b3⟩ := HX5.out.y
    obtain ⟨s0, s1, _, _⟩ := XG5.out
    go_wp2_with fail
    clear s0 s1
    refine (radd_all xn xd ln ld _).mono ?_
    rintro e v5 ⟨he, hb⟩
    rw [HY.out] at he
    subst he
    obtain ⟨u6, hw⟩ : ∃ w', (v5.setCell ⟨G, 0, none⟩ (.int .i64 yn)).setCell ⟨G, 1, none⟩ (.int .i64 yd) = w' := ⟨_, rfl⟩
    have HX6 := Lib.hid (show Wt w bn bd an ad rn rd ln ld u6 by rw [← hw]; exact (HX5.out.call hb).put HSZ.out _ _)
    have XG6 := Lib.hid (show Box u6 G yn yd by rw [← hw]; exact (XG5.out.below hb).set _ _)
    obtain ⟨s0, s1, s2, s3⟩ := XG5.out.below hb
    have HW := Lib.hid hw
    clear hb hw
    go_upto_region 8 with fail
    try rw [HW.out]
    clear HW s0 s1 s2 s3
    clear b0 b1 b2 b3
    obtain ⟨s0, s1, _, _⟩ := XG6.out
    go_wp2_with fail
    clear s0 s1
    refine (rsub_all yn yd 1 1 HYN.out _).mono ?_
    rintro e v6 ⟨he, hb⟩
    rw [HZ.out] at he
    subst he
    obtain ⟨u7, hw⟩ : ∃ w', (v6.setCell ⟨G, 0, none⟩ (.int .i64 zn)).setCell ⟨G, 1, none⟩ (.int .i64 zd) = w' := ⟨_, rfl⟩
    have HX7 := Lib.hid (show Wt w bn bd an ad rn rd ln ld u7 by rw [← hw]; exact (HX6.out.call hb).put HSZ.out _ _)
    have XG7 := Lib.hid (show Box u7 G zn zd by rw [← hw]; exact (XG6.out.below hb).set _ _)
    obtain ⟨s0, s1, s2, s3⟩ := XG6.out.below hb
    have HW := Lib.hid hw
    clear hb hw
    go_upto_region 10 with fail
    try rw [HW.out]
    clear HW s0 s1 s2 s3
    obtain ⟨s0, s1, s2, s3⟩ := XG7.out
    obtain ⟨e0, e1, e2, e3⟩ := HX7.out.r
    go_wp2_with fail
    exact bodyPost_ret (v := .tuple #[.agg #[.int .i64 0, .int .i64 1], .int .i64 0]) (by simp [results, Try.results29, go_sem, e0, e1, e2, e3]) rfl ⟨rfl, (HX7.out.below.setCell (by show w.heap.size ≤ w.heap.size + 2; omega) _).setCell (by show w.heap.size ≤ w.heap.size + 2; omega) _⟩
  · rw [if_neg (fun h => e3 h.2)] at hk
    subst hk
    go_enter Try.func29, Try.ntmps29
    go_upto_region 1 with fail
    rw [HW.out]
    clear HW
    obtain ⟨a0, a1, a2, a3⟩ := HX.out.x
    go_wp2_with fail
    clear a0 a1 a2 a3
    refine (rgood2_any bn bd an ad _ H1.out _).mono ?_
    rintro e u1 ⟨rfl, hb⟩
    have HX1 := Lib.hid (HX.out.call hb)
    clear hb
    obtain ⟨b0, b1, b2, b3⟩ := HX1.out.y
    go_wp2_with fail
    clear b0 b1 b2 b3
    refine (rgood2_any rn rd ln ld _ H3.out _).mono ?_
    rintro e u3 ⟨rfl, hb⟩
    have HX3 := Lib.hid (HX1.out.call hb)
    clear hb
    obtain ⟨a0, a1, a2, a3⟩ := HX3.out.x
    obtain ⟨b0, b1, b2, b3⟩ := HX3.out.y
    go_wp2_with fail
    clear a0 a1 a2 a3 b0 b1 b2 b3
    refine (rcompare_all an ad rn rd _).mono ?_
    rintro e u4 ⟨rfl, hb⟩
    rw [HC.out]
    have HX4 := Lib.hid (HX3.out.call hb)
    clear hb
    obtain ⟨b0, b1, b2, b3⟩ := HX4.out.y
    go_upto_region 5 with fail
    obtain ⟨a0, a1, a2, a3⟩ := HX4.out.x
    go_wp2_with fail
    clear a0 a1 a2 a3 b0 b1 b2 b3
    refine (rdiv_all bn bd rn rd _).mono ?_
    rintro e v1 ⟨he, hb⟩
    rw [HD.out] at he
    subst he
    obtain ⟨u5, hw⟩ : ∃ w', v1.alloc (.cells #[.int .i64 xn, .int .i64 xd] 23) = w' := ⟨_, rfl⟩
    have hz : Below u4.heap.size u4 u5 := by rw [← hw]; exact hb.trans ((below_box _).mono hb.size)
    have HX5 := Lib.hid (HX4.out.call hz)
    have XG5 := Lib.hid (show Box u5 v1.heap.size xn xd by rw [← hw]; exact Box.new _ _ _ _)
    have HSZ := Lib.hid (show w.heap.size + 2 < v1.heap.size from Nat.lt_of_lt_of_le HX4.out.r.lt hb.size)
    have HW := Lib.hid hw
    clear hb hw hz
    go_upto_region 6 with fail
    try rw [HW.out]
    obtain ⟨G, hG⟩ : ∃ B, v1.heap.size = B := ⟨_, rfl⟩
    rw [hG] at XG5 HSZ
    try rw [hG]
    clear HW hG
    obtain ⟨b0, b1, b2, b3⟩ := HX5.out.y
    obtain ⟨s0, s1, _, _⟩ := XG5.out
    go_wp2_with fail
    clear s0 s1
    refine (radd_all xn xd ln ld _).mono ?_
    rintro e v5 ⟨he, hb⟩
    rw [HY.out] at he
    subst he
    obtain ⟨u6, hw⟩ : ∃ w', (v5.setCell ⟨G, 0, none⟩ (.int .i64 yn)).setCell ⟨G, 1, none⟩ (.int .i64 yd) = w' := ⟨_, rfl⟩
    have HX6 := Lib.hid (show Wt w bn bd an ad rn rd ln ld u6 by rw [← hw]; exact (HX5.out.call hb).put HSZ.out _ _)
    have XG6 := Lib.hid (show Box u6 G yn yd by rw [← hw]; exact (XG5.out.below hb).set _ _)
    obtain ⟨s0, s1, s2, s3⟩ := XG5.out.below hb
    have HW := Lib.hid hw
    clear hb hw
    go_upto_region 8 with fail
    try rw [HW.out]
    clear HW s0 s1 s2 s3
    clear b0 b1 b2 b3
    obtain ⟨s0, s1, _, _⟩ := XG6.out
    go_wp2_with fail
    clear s0 s1
    refine (rsub_all yn yd 1 1 HYN.out _).mono ?_
    rintro e v6 ⟨he, hb⟩
    rw [HZ.out] at he
    subst he
    obtain ⟨u7, hw⟩ : ∃ w', (v6.setCell ⟨G, 0, none⟩ (.int .i64 zn)).setCell ⟨G, 1, none⟩ (.int .i64 zd) = w' := ⟨_, rfl⟩
    have HX7 := Lib.hid (show Wt w bn bd an ad rn rd ln ld u7 by rw [← hw]; exact (HX6.out.call hb).put HSZ.out _ _)
    have XG7 := Lib.hid (show Box u7 G zn zd by rw [← hw]; exact (XG6.out.below hb).set _ _)
    obtain ⟨s0, s1, s2, s3⟩ := XG6.out.below hb
    have HW := Lib.hid hw
    clear hb hw
    go_upto_region 10 with fail
    try rw [HW.out]
    clear HW s0 s1 s2 s3
    obtain ⟨s0, s1, s2, s3⟩ := XG7.out
    obtain ⟨e0, e1, e2, e3⟩ := HX7.out.r
    go_wp2_with fail
    exact bodyPost_ret (v := .tuple #[.agg #[.int .i64 zn, .int .i64 zd], .int .i64 0]) (by simp [results, Try.results29, go_sem, e0, e1, e2, e3]) rfl ⟨rfl, (HX7.out.below.setCell (by show w.heap.size ≤ w.heap.size + 2; omega) _).setCell (by show w.heap.size ≤ w.heap.size + 2; omega) _⟩

end Go.Proofs.Ytjipmkgnndldpaa
