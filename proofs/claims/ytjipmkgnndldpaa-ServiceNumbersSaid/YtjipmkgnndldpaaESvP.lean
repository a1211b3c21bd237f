/- What the chain of two paces, the wait of a bucket and the delay are, for the walks of law12. By the verifier's side. -/
import Derived.Test.YtjipmkgnndldpaaESvESvN
import Derived.Test.YtjipmkgnndldpaaESvD
import Derived.Test.YtjipmkgnndldpaaEDevM
import Derived.Test.YtjipmkgnndldpaaEConMN
namespace Go.Proofs.Ytjipmkgnndldpaa
open Go.RowKit
set_option linter.unusedSimpArgs false
set_option linter.unusedVariables false

theorem pace_up {rn rd ln ld : Nat} (t : Nat) : ∀ j, paceN rn rd ln ld t ≤ paceN rn rd ln ld (t + j)
  | 0 => Nat.le_refl _
  | j + 1 => Nat.le_trans (pace_up t j) (pace_step _)

/-- The chain of two small paces. -/
theorem chain_two {an ad kn kd bn bd ln ld : Nat} (h1 : okB an ad = true) (h2 : okB kn kd = true) (h3 : okB bn bd = true) (h4 : okB ln ld = true) (a0 : an ≤ 1000) (a2 : ad ≤ 20) (b0 : bn ≤ 1000) (b2 : bd ≤ 20) (k0 : kn ≤ 1000) (k2 : kd ≤ 20) (l0 : ln ≤ 1000) (l2 : ld ≤ 20) :
    ∃ mn md S T : Nat, chainA [⟨an, ad, kn, kd⟩, ⟨bn, bd, ln, ld⟩] = ⟨mn, md, S, T, 0⟩ ∧ okB mn md = true ∧ okB S T = true ∧ mn ≤ 1000 ∧ md ≤ 20 ∧ 1 ≤ md ∧ 1 ≤ T ∧ T ≤ kd * ld ∧ S ≤ kn * ld + ln * kd ∧ mn * ad ≤ an * md ∧ mn * bd ≤ bn * md ∧ (kn * ld + ln * kd) * T = S * (kd * ld) := by
  obtain ⟨S, T, he, ho, hx, ht1, ht2, hs⟩ := svadd_nat h2 h4 k2 l2 k0 l0
  have o1 := (okF_iff _ _).1 ((okB_iff _ _).1 h1).1
  have o3 := (okF_iff _ _).1 ((okB_iff _ _).1 h3).1
  have hb : badL [⟨an, ad, kn, kd⟩, ⟨bn, bd, ln, ld⟩] = false := by unfold badL; simp [Bkt.ok, h1, h2, h3, h4]
  have hl : chainA [⟨an, ad, kn, kd⟩, ⟨bn, bd, ln, ld⟩] = linkA ⟨an, ad, kn, kd, 0⟩ ⟨bn, bd, ln, ld⟩ := by
    rw [chainA_fold (by simp) hb]; rfl
  obtain ⟨s1, s2, s3⟩ := compareF_sign bn bd an ad ((okB_iff _ _).1 h3).1 ((okB_iff _ _).1 h1).1
  have c1 : ((bn * ad : Nat) : Int) = (bn : Int) * (ad : Int) := Int.natCast_mul _ _
  have c2 : ((an * bd : Nat) : Int) = (an : Int) * (bd : Int) := Int.natCast_mul _ _
  rw [hl]
  unfold linkA
  dsimp only
  rw [he]
  dsimp only
  rw [if_pos rfl]
  by_cases hc : compareF bn bd an ad < 0
  · rw [if_pos hc]
    have : bn * ad < an * bd := by
      refine Nat.lt_of_not_le fun hle => ?_
      have hle' : (an : Int) * (bd : Int) ≤ (bn : Int) * (ad : Int) := by omega
      rcases Int.lt_or_eq_of_le hle' with h | h
      · have := s3 h; omega
      · have := s2 h.symm; omega
    exact ⟨bn, bd, S, T, rfl, h3, ho, b0, b2, by omega, ht1, ht2, hs, by omega, Nat.le_refl _, hx.symm⟩
  · rw [if_neg hc]
    have : an * bd ≤ bn * ad := by
      refine Nat.le_of_not_lt fun hlt => hc ?_
      have hlt' : (bn : Int) * (ad : Int) < (an : Int) * (bd : Int) := by omega
      have := s1 hlt'; omega
    exact ⟨an, ad, S, T, rfl, h1, ho, a0, a2, by omega, ht1, ht2, hs, Nat.le_refl _, by omega, hx.symm⟩

/-- The convolution of two paces is at least the pace of their chain. -/
theorem chain_conv {an ad kn kd bn bd ln ld mn md S T : Nat} {zf zg : List Int} {pf pg : Nat} {jf jg : Int} (hf : EForm zf pf jf (paceE an ad kn kd)) (hg : EForm zg pg jg (paceE bn bd ln ld))
    (had : 1 ≤ ad) (hkd : 1 ≤ kd) (hbd : 1 ≤ bd) (hld : 1 ≤ ld) (hmd : 1 ≤ md) (hT : 1 ≤ T) (h1 : mn * ad ≤ an * md) (h2 : mn * bd ≤ bn * md) (hc : (kn * ld + ln * kd) * T = S * (kd * ld)) (t : Nat) : ole (paceE mn md S T t) (eConv zf pf jf zg pg jg t) := by
  unfold eConv
  refine oconv_great fun s hs => ?_
  rw [hf.val, hg.val]
  show ole (some _) (some _)
  refine ole_some ?_
  have := pace_chain (s := s) (t := t - s) had hkd hbd hld hmd hT h1 h2 hc
  rw [show s + (t - s) = t by omega] at this
  unfold paceF
  omega

/-- The wait of a small bucket at a pace that is fast enough. -/
theorem wait_nat {bn bd an ad rn rd ln ld : Nat} (h1 : okB bn bd = true) (h2 : okB an ad = true) (h3 : okB rn rd = true) (h4 : okB ln ld = true) (b0 : bn ≤ 200) (b2 : bd ≤ 5) (r0 : rn ≤ 30) (r2 : rd ≤ 5) (l0 : ln ≤ 60) (l2 : ld ≤ 5) :
    (waitA bn bd an ad rn rd ln ld = (0, 0, 5) ∧ (rn = 0 ∨ 0 < compareF an ad rn rd)) ∨
    (1 ≤ rn ∧ an * rd ≤ rn * ad ∧ ∃ zn zd : Nat, waitA bn bd an ad rn rd ln ld = ((zn : Int), (zd : Int), 0) ∧ okB zn zd = true ∧ zn ≤ 100000 ∧ ln * (bd * rn) + bn * rd * ld ≤ (upN zn zd + 1) * (ld * (bd * rn))) := by
  have k1 := ((okB_iff _ _).1 h1).1
  have k2 := ((okB_iff _ _).1 h2).1
  have k3 := ((okB_iff _ _).1 h3).1
  have k4 := ((okB_iff _ _).1 h4).1
  have o1 := (okF_iff _ _).1 k1
  have o3 := (okF_iff _ _).1 k3
  have o4 := (okF_iff _ _).1 k4
  unfold waitA
  rw [if_pos (by rw [h1, h2, h3, h4]; rfl)]
  by_cases hn : (rn : Int) = 0 ∨ 0 < compareF an ad rn rd
  · rw [if_pos hn]
    exact .inl ⟨rfl, hn.imp (fun h => by omega) id⟩
  · rw [if_neg hn]
    have hr : 1 ≤ rn := Nat.pos_of_ne_zero fun h => hn (.inl (by omega))
    have hcp : an * rd ≤ rn * ad := by
      refine Nat.le_of_not_lt fun hlt => hn (.inr ?_)
      obtain ⟨_, _, s3⟩ := compareF_sign an ad rn rd k2 k3
      have c1 : ((rn * ad : Nat) : Int) = (rn : Int) * (ad : Int) := Int.natCast_mul _ _
      have c2 : ((an * rd : Nat) : Int) = (an : Int) * (rd : Int) := Int.natCast_mul _ _
      have := s3 (by omega)
      omega
    refine .inr ⟨hr, hcp, ?_⟩
    have e1 : bn * rd ≤ 200 * 5 := Nat.mul_le_mul b0 r2
    have e2 : bd * rn ≤ 5 * 30 := Nat.mul_le_mul b2 r0
    have e3 : 1 ≤ bd * rn := Nat.mul_pos (by omega) hr
    obtain ⟨xn, xd, hx, hox, hxx, hx1, hx2, hx3⟩ := svnew_nat (N := bn * rd) (D := bd * rn) e3 (by omega) (by omega)
    have hxF : divF bn bd rn rd = ((xn : Int), (xd : Int), 0) := by
      unfold divF
      rw [if_pos (by rw [k1, k3]; rfl), ← hx]
      congr 1 <;> simp
    have e4 : xn * ld ≤ 1000 * 5 := Nat.mul_le_mul (by omega) l2
    have e5 : ln * xd ≤ 60 * 150 := Nat.mul_le_mul l0 (by omega)
    have e6 : xd * ld ≤ 150 * 5 := Nat.mul_le_mul (by omega) l2
    have e7 : 1 ≤ xd * ld := Nat.mul_pos hx1 (by omega)
    obtain ⟨yn, yd, hy, hoy, hyy, hy1, hy2, hy3⟩ := svnew_nat (N := xn * ld + ln * xd) (D := xd * ld) e7 (by omega) (by omega)
    have hyF : addF xn xd ln ld = ((yn : Int), (yd : Int), 0) := by
      unfold addF
      rw [if_pos (by rw [((okB_iff _ _).1 hox).1, k4]; rfl), ← hy]
      congr 1 <;> simp
    obtain ⟨sn, sd, he, hok, hz, hneg, hzero, hle, hde⟩ := newF_small ((yn : Int) - yd) yd (by omega) (by omega) (by omega)
    have hzF : subF yn yd 1 1 = (sn, sd, 0) := by
      unfold subF
      rw [if_pos (by rw [((okB_iff _ _).1 hoy).1]; decide), ← he]
      congr 1 <;> simp
    have hos := (okF_iff _ _).1 hok
    have hws : waitS bn bd rn rd ln ld = if (0 : Int) = 0 ∧ sn < 0 then (0, 1, 0) else (sn, sd, 0) := by
      unfold waitS
      rw [hxF]
      dsimp only
      rw [if_pos rfl, hyF]
      dsimp only
      rw [if_pos rfl, hzF]
    rw [hws]
    -- what is to be shown of the wait: yn is at most (D + 1) yd
    have fin : ∀ D, yn ≤ (D + 1) * yd → ln * (bd * rn) + bn * rd * ld ≤ (D + 1) * (ld * (bd * rn)) := fun D hD => by
      have f1 : (xn * ld + ln * xd) * yd ≤ (D + 1) * yd * (xd * ld) := by rw [← hyy]; exact Nat.mul_le_mul_right _ hD
      have f2 : xn * ld + ln * xd ≤ (D + 1) * (xd * ld) := Nat.le_of_mul_le_mul_right (a := xn * ld + ln * xd) (b := (D + 1) * (xd * ld)) (c := yd) (by rw [show (D + 1) * (xd * ld) * yd = (D + 1) * yd * (xd * ld) by grind]; exact f1) hy1
      have f3 : (xn * ld + ln * xd) * (bd * rn) ≤ (D + 1) * (xd * ld) * (bd * rn) := Nat.mul_le_mul_right _ f2
      have f4 : (ln * (bd * rn) + bn * rd * ld) * xd = (xn * ld + ln * xd) * (bd * rn) := by
        have : xn * (bd * rn) * ld = bn * rd * xd * ld := by rw [hxx]
        grind
      refine Nat.le_of_mul_le_mul_right (c := xd) ?_ hx1
      rw [f4, show (D + 1) * (ld * (bd * rn)) * xd = (D + 1) * (xd * ld) * (bd * rn) by grind]
      exact f3
    by_cases hs : sn < 0
    · rw [if_pos ⟨rfl, hs⟩]
      refine ⟨0, 1, rfl, by decide, by omega, fin _ ?_⟩
      have := hneg.1 hs
      rw [up_self]; omega
    · rw [if_neg (fun h => hs h.2)]
      obtain ⟨zn, rfl⟩ := Int.eq_ofNat_of_zero_le (show 0 ≤ sn by omega)
      obtain ⟨zd, rfl⟩ := Int.eq_ofNat_of_zero_le (show 0 ≤ sd by omega)
      refine ⟨zn, zd, rfl, (okB_iff _ _).2 ⟨hok, by omega⟩, by omega, fin _ ?_⟩
      have hzd : 1 ≤ zd := by omega
      have g1 := (up_le (n := zn) hzd (upN zn zd)).1 (Nat.le_refl _)
      -- zn yd = (yn - yd) zd
      have g2 : yn * zd = (zn + zd) * yd := by
        have : ((yn * zd : Nat) : Int) = (((zn + zd) * yd : Nat) : Int) := by
          rw [Int.natCast_mul, Int.natCast_mul, Int.natCast_add]
          grind
        exact Int.ofNat.inj this
      refine Nat.le_of_mul_le_mul_right (c := zd) ?_ hzd
      rw [g2, show (upN zn zd + 1) * yd * zd = (upN zn zd * zd + zd) * yd by grind]
      exact Nat.mul_le_mul_right _ (by omega)

/-- A delay that is enough bounds the delay. -/
theorem dev_most {a : Nat → Option Int} {rn rd ln ld : Nat} {i : Bool} {m : Int} {k : Nat} (h : DevD a (paceE rn rd ln ld) i m k) {D : Nat} (hD : ∀ t, ole (a t) (paceE rn rd ln ld (t + D))) : i = false ∧ m ≤ D := by
  obtain ⟨n, rfl, h, _⟩ := h
  rcases h with ⟨_, _, _, hx⟩ | ⟨hi, _, h0 | ⟨h1, hk, _⟩⟩
  · obtain ⟨t, ht⟩ := hx D
    exact absurd (hD t) ht
  · exact ⟨hi, by omega⟩
  · refine ⟨hi, ?_⟩
    by_cases hle : n ≤ D
    · omega
    · refine absurd (ole_trans (hD k) (ole_some ?_)) hk
      have := pace_up (rn := rn) (rd := rd) (ln := ln) (ld := ld) (k + D) (n - 1 - D)
      rw [show k + D + (n - 1 - D) = k + (n - 1) by omega] at this
      unfold paceF
      omega

theorem svrow_two (w : World) (b c : Bkt) (t : TypeId) : RowB (w.alloc (.cells #[.int .i64 b.bn, .int .i64 b.bd, .int .i64 b.rn, .int .i64 b.rd, .int .i64 c.bn, .int .i64 c.bd, .int .i64 c.rn, .int .i64 c.rd] t)) w.heap.size 0 [b, c] := fun i d hc => by
  rcases i with _ | _ | i
  · cases hc; exact ⟨by go_simp, by go_simp, by go_simp, by go_simp⟩
  · cases hc; exact ⟨by go_simp, by go_simp, by go_simp, by go_simp⟩
  · simp at hc
theorem svrow_three (w : World) (b c d : Bkt) (t : TypeId) : RowB (w.alloc (.cells #[.int .i64 b.bn, .int .i64 b.bd, .int .i64 b.rn, .int .i64 b.rd, .int .i64 c.bn, .int .i64 c.bd, .int .i64 c.rn, .int .i64 c.rd, .int .i64 d.bn, .int .i64 d.bd, .int .i64 d.rn, .int .i64 d.rd] t)) w.heap.size 0 [b, c, d] := fun i x hc => by
  rcases i with _ | _ | _ | i
  · cases hc; exact ⟨by go_simp, by go_simp, by go_simp, by go_simp⟩
  · cases hc; exact ⟨by go_simp, by go_simp, by go_simp, by go_simp⟩
  · cases hc; exact ⟨by go_simp, by go_simp, by go_simp, by go_simp⟩
  · simp at hc

end Go.Proofs.Ytjipmkgnndldpaa
