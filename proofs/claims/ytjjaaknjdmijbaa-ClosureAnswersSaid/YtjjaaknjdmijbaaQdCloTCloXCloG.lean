/- The document's Same of two equal certificates. By the verifier's side. -/
import Derived.Test.YtjjaaknjdmijbaaQdCloE
import Derived.Test.YtjjaaknjdmijbaaQdCloC
import Derived.Test.YtjjaaknjdmijbaaQdCloFCloH
import Derived.Test.YtjjaaknjdmijbaaQdCurSToCurveNormalW
import Derived.Test.YtjjaaknjdmijbaaQdRefA
import Derived.Test.YtjjaaknjdmijbaaQdPwEToRowF
namespace Go.Proofs.Ytjjaaknjdmijbaa
open Go.RowKit
set_option linter.unusedSimpArgs false
set_option linter.unusedVariables false

set_option maxHeartbeats 3200000 in
theorem rsame9_self (a : Option Addr) (n cap : Nat) (a2 : Option Addr) (n2 cap2 : Nat) (zs : List Int) (p inc fr : Int) (at1 : Option Addr) (m mc : Nat) (at2 : Option Addr) (m2 mc2 : Nat) (ts : List Int) (w : World) (h1 : RowZ w a n cap zs) (h2 : RowZ w a2 n2 cap2 zs) (k1 : RowZ w at1 m mc ts) (k2 : RowZ w at2 m2 mc2 ts) :
    Calls Try.prog 48 #[.agg #[.slice a n cap, .int .i64 p, .int .i64 inc, .int .i64 fr, .slice at1 m mc], .agg #[.slice a2 n2 cap2, .int .i64 p, .int .i64 inc, .int .i64 fr, .slice at2 m2 mc2]] w (Says (.bool true) w) := by
  obtain ⟨W, hW⟩ : ∃ W, ((w.alloc (.cells #[.slice a n cap, .int .i64 p, .int .i64 inc, .int .i64 fr, .slice at1 m mc] 59)).alloc (.cells #[.slice a2 n2 cap2, .int .i64 p, .int .i64 inc, .int .i64 fr, .slice at2 m2 mc2] 59)) = W := ⟨_, rfl⟩
  have hB : Below w.heap.size w W := by rw [← hW]; exact ((Below.refl _ _).alloc (Nat.le_refl _) _).alloc (by simp) _
  have KF := Lib.hid (show P5 W w.heap.size (.slice a n cap) (.int .i64 p) (.int .i64 inc) (.int .i64 fr) (.slice at1 m mc) by rw [← hW]; exact (p5_new w _ _ _ _ _ _).below ((Below.refl _ _).alloc (Nat.le_refl _) _))
  have KG := Lib.hid (show P5 W (w.heap.size + 1) (.slice a2 n2 cap2) (.int .i64 p) (.int .i64 inc) (.int .i64 fr) (.slice at2 m2 mc2) by
    rw [← hW]
    have := p5_new (w.alloc (.cells #[.slice a n cap, .int .i64 p, .int .i64 inc, .int .i64 fr, .slice at1 m mc] 59)) (.slice a2 n2 cap2) (.int .i64 p) (.int .i64 inc) (.int .i64 fr) (.slice at2 m2 mc2) 59
    simpa using this)
  have HBl := Lib.hid hB
  have HR := Lib.hid (And.intro (h1.under hB) (h2.under hB))
  have HK := Lib.hid (And.intro (k1.under hB) (k2.under hB))
  have hm : m2 = m := k2.len.symm.trans k1.len
  have hml := k1.sm
  subst hm
  have HW := Lib.hid hW
  have t0 : (fr != fr) = false := by simp
  have t1 : ((m2 : Int) != (m2 : Int)) = false := by simp
  clear hB hW h1 h2 k1 k2
  go_enter Try.func48, Try.ntmps48
  go_upto_region 1 with fail
  try rw [HW.out]
  obtain ⟨⟨c0, c1, c2, f0, f1, f2⟩, c3, c4, f3, f4⟩ := KF.out
  obtain ⟨⟨d0, d1, d2, g0, g1, g2⟩, d3, d4, g3, g4⟩ := KG.out
  go_wp2_with fail
  refine (rsame_any a n cap zs p inc a2 n2 cap2 zs p inc true (sameB_iff.2 ⟨rfl, rfl, rfl⟩) _ HR.out.1 HR.out.2).mono ?_
  rintro e W1 ⟨rfl, hb⟩
  have KF1 := Lib.hid (KF.out.below hb)
  have KG1 := Lib.hid (KG.out.below hb)
  have HB1 := Lib.hid (HBl.out.trans (hb.mono HBl.out.size))
  have HK1 := Lib.hid (And.intro (HK.out.1.under hb) (HK.out.2.under hb))
  clear hb c0 c1 c2 f0 f1 f2 c3 c4 f3 f4 d0 d1 d2 g0 g1 g2 d3 d4 g3 g4
  go_wp2_with fail
  go_loopw [5] (fun s5 wx => ∃ k : Nat, s5 = .int .i64 k ∧ k ≤ m2 ∧ Hid (∃ q, wx = W1.drewN q)) (fun s5 _ => m2 - (intOf s5).toNat)
  case atStart => exact ⟨0, rfl, Nat.zero_le _, Lib.hid ⟨0, rfl⟩⟩
  case round =>
    obtain ⟨k, rfl, hk, hdr⟩ := hrel
    obtain ⟨w1, rfl⟩ : ∃ u : World, u = wr := ⟨_, rfl⟩
    have hbd := below_dr (Below.refl W1.heap.size W1) hdr.out
    obtain ⟨⟨c0, c1, c2, f0, f1, f2⟩, c3, c4, f3, f4⟩ := KF1.out.below hbd
    obtain ⟨⟨d0, d1, d2, g0, g1, g2⟩, d3, d4, g3, g4⟩ := KG1.out.below hbd
    by_cases hlt : k < m2
    · obtain ⟨x, rfl, hcx⟩ := (HK1.out.1.under hbd).cell k hlt
      obtain ⟨y, rfl, hcy⟩ := (HK1.out.2.under hbd).cell k hlt
      obtain ⟨v1, hv1⟩ : ∃ v, ts.getD k 0 = v := ⟨_, rfl⟩
      rw [hv1] at hcx hcy
      have hd' : (v1 != v1) = false := by simp
      clear hv1 hbd
      go_wp2_with fail
      go_quiet (fail)
      go_wp2_with fail
      go_roundw
      case rel => exact ⟨k + 1, by go_num, by omega, Lib.hid (hdr_add hdr.out nq)⟩
      case measure => simp [intOf]; omega
    · obtain rfl : k = m2 := by omega
      clear hbd
      go_wp2_with fail
      go_ret
      exact ⟨rfl, below_dr HB1.out hdr.out⟩

end Go.Proofs.Ytjjaaknjdmijbaa

namespace Go.Proofs.Ytjjaaknjdmijbaa
set_option linter.unusedSimpArgs false
set_option linter.unusedVariables false

theorem c1_good : Good [0, 4, 4] 1 5 := (okC_iff _ _ _).1 (by decide)
theorem d1_good : Good [0, 4] 2 4 := (okC_iff _ _ _).1 (by decide)
theorem c2_good : Good [0, 10, 12, 14] 1 9 := (okC_iff _ _ _).1 (by decide)
theorem d2_good : Good [0, 10, 12, 14, 23] 3 14 := (okC_iff _ _ _).1 (by decide)
theorem c3_good : Good [0] 1 3 := (okC_iff _ _ _).1 (by decide)

/-- Two finite curves, one of which grows faster, compared. -/
theorem le_per {zs ys : List Int} {p q : Nat} {inc jnc : Int} (g : Good zs p inc) (k : Good ys q jnc) (f1 : ¬ InfC zs) (f2 : ¬ InfC ys) {L s : Nat} {ca cb : Int} (h1 : Per (atC zs p inc) s L ca) (h2 : Per (atC ys q jnc) s L cb) (hc : ca ≤ cb) (hL : 1 ≤ L) (h : ∀ t, t < s + L → atC zs p inc t ≤ atC ys q jnc t) (t : Nat) : ole (eC zs p inc t) (eC ys q jnc t) := by
  rw [eC_fin f1, eC_fin f2]
  refine ole_some ?_
  induction t using Nat.strongRecOn with
  | ind t ih =>
    by_cases ht : t < s + L
    · exact h t ht
    · have e1 := h1 (t - L) (by omega)
      have e2 := h2 (t - L) (by omega)
      rw [show t - L + L = t by omega] at e1 e2
      have := ih (t - L) (by omega)
      omega
theorem sub_iff0 {zs : List Int} {p : Nat} {inc : Int} (g : Good zs p inc) (h : ∀ s, s < zs.length → ∀ u, u ≤ s → atC zs p inc (s + u) ≤ plI (atC zs p inc s) (atC zs p inc u)) : SubA (eC zs p inc) := (sub_iff g).1 h
theorem c1_clo : eC [0, 4] 2 4 = eClo [0, 4, 4] 1 5 := by
  have f0 : ¬ InfC [0, 4] := by unfold InfC; decide
  have f1 : ¬ InfC [0, 4, 4] := by unfold InfC; decide
  have hL : comL 1 [0, 4] 2 = 2 := by rw [comL_fin f0]; decide
  refine cert_clo (fr := 5) c1_good d1_good (by rw [eC_fin f0]; rfl) ?_ ?_ (by rw [hL]; decide) fun t t1 t2 => ?_
  · exact le_per d1_good c1_good f0 f1 (L := 2) (s := 2) ((d1_good.per f0).mono (by decide)) (((c1_good.per f1).mul 2).mono (by decide)) (by decide) (by decide) (fun t ht => by
      have : t = 0 ∨ t = 1 ∨ t = 2 ∨ t = 3 := by omega
      rcases this with rfl | rfl | rfl | rfl <;> decide)
  · refine sub_iff0 d1_good fun s hs u hu => ?_
    have : (s = 0 ∧ u = 0) ∨ (s = 1 ∧ u = 0) ∨ (s = 1 ∧ u = 1) := by simp at hs; omega
    rcases this with ⟨rfl, rfl⟩ | ⟨rfl, rfl⟩ | ⟨rfl, rfl⟩ <;> decide
  · rw [hL] at t2
    have : t = 1 ∨ t = 2 ∨ t = 3 ∨ t = 4 ∨ t = 5 ∨ t = 6 := by omega
    rcases this with rfl | rfl | rfl | rfl | rfl | rfl
    · exact ⟨0, .inl ⟨rfl, by decide, .inl (by omega)⟩⟩
    · exact ⟨0, .inl ⟨rfl, by decide, .inl (by omega)⟩⟩
    · exact ⟨1, .inr ⟨by omega, by omega, by decide, .inl (by omega)⟩⟩
    · exact ⟨2, .inr ⟨by omega, by omega, by decide, .inl (by omega)⟩⟩
    · exact ⟨1, .inr ⟨by omega, by omega, by decide, .inr (by decide)⟩⟩
    · exact ⟨2, .inr ⟨by omega, by omega, by decide, .inr (by decide)⟩⟩
theorem c2_clo : eC [0, 10, 12, 14, 23] 3 14 = eClo [0, 10, 12, 14] 1 9 := by
  have f1 : ¬ InfC [0, 10, 12, 14, 23] := by unfold InfC; decide
  have f2 : ¬ InfC [0, 10, 12, 14] := by unfold InfC; decide
  have hL : comL 1 [0, 10, 12, 14, 23] 3 = 3 := by rw [comL_fin f1]; decide
  refine cert_clo (fr := 8) c2_good d2_good (by rw [eC_fin f1]; rfl) ?_ ?_ (by rw [hL]; decide) fun t t1 t2 => ?_
  · exact le_per d2_good c2_good f1 f2 (L := 3) (s := 3) ((d2_good.per f1).mono (by decide)) (((c2_good.per f2).mul 3).mono (by decide)) (by decide) (by decide) (fun t ht => by
      have : t = 0 ∨ t = 1 ∨ t = 2 ∨ t = 3 ∨ t = 4 ∨ t = 5 := by omega
      rcases this with rfl | rfl | rfl | rfl | rfl | rfl <;> decide)
  · refine sub_iff0 d2_good fun s hs u hu => ?_
    have h1 : s = 0 ∨ s = 1 ∨ s = 2 ∨ s = 3 ∨ s = 4 := by simp at hs; omega
    have h2 : u = 0 ∨ u = 1 ∨ u = 2 ∨ u = 3 ∨ u = 4 := by simp at hs; omega
    rcases h1 with rfl | rfl | rfl | rfl | rfl <;> rcases h2 with rfl | rfl | rfl | rfl | rfl <;> decide
  · rw [hL] at t2
    have : t = 1 ∨ t = 2 ∨ t = 3 ∨ t = 4 ∨ t = 5 ∨ t = 6 ∨ t = 7 ∨ t = 8 ∨ t = 9 ∨ t = 10 := by omega
    rcases this with rfl | rfl | rfl | rfl | rfl | rfl | rfl | rfl | rfl | rfl
    · exact ⟨0, .inl ⟨rfl, by decide, .inl (by omega)⟩⟩
    · exact ⟨0, .inl ⟨rfl, by decide, .inl (by omega)⟩⟩
    · exact ⟨0, .inl ⟨rfl, by decide, .inl (by omega)⟩⟩
    · exact ⟨0, .inl ⟨rfl, by decide, .inl (by omega)⟩⟩
    · exact ⟨2, .inr ⟨by omega, by omega, by decide, .inl (by omega)⟩⟩
    · exact ⟨3, .inr ⟨by omega, by omega, by decide, .inl (by omega)⟩⟩
    · exact ⟨3, .inr ⟨by omega, by omega, by decide, .inl (by omega)⟩⟩
    · exact ⟨3, .inr ⟨by omega, by omega, by decide, .inr (by decide)⟩⟩
    · exact ⟨3, .inr ⟨by omega, by omega, by decide, .inr (by decide)⟩⟩
    · exact ⟨3, .inr ⟨by omega, by omega, by decide, .inr (by decide)⟩⟩
theorem c3_sub : SubA (eC [0] 1 3) := sub_iff0 c3_good fun s hs u hu => by
  obtain rfl : s = 0 := by simp at hs; omega
  obtain rfl : u = 0 := by omega
  decide
theorem c1_form : EForm [0, 4, 4] 1 5 (eC [0, 4, 4] 1 5) := ⟨c1_good, fun _ => rfl, 2, rfl, ⟨c1_good.per (by decide), by omega, fun q h1 h2 => by omega, .inr (by decide)⟩⟩
theorem c2_form : EForm [0, 10, 12, 14] 1 9 (eC [0, 10, 12, 14] 1 9) := ⟨c2_good, fun _ => rfl, 3, rfl, ⟨c2_good.per (by decide), by omega, fun q h1 h2 => by omega, .inr (by decide)⟩⟩
theorem d1_form : EForm [0, 4] 2 4 (eClo [0, 4, 4] 1 5) := ⟨d1_good, fun t => by rw [c1_clo], 0, rfl, ⟨d1_good.per (by decide), by omega, fun q h1 h2 s' c' hp => by
    obtain rfl : q = 1 := by omega
    have h := (d1_good.per (by decide)).any (by omega) hp
    have a := h 0 (Nat.zero_le _)
    have b := h 1 (Nat.zero_le _)
    have e0 : atC [0, 4] 2 4 0 = 0 := by decide
    have e1 : atC [0, 4] 2 4 1 = 4 := by decide
    have e2 : atC [0, 4] 2 4 2 = 4 := by decide
    rw [show 0 + 1 = 1 from rfl, e0, e1] at a
    rw [show 1 + 1 = 2 from rfl, e1, e2] at b
    omega, .inl rfl⟩⟩
theorem d2_form : EForm [0, 10, 12, 14, 23] 3 14 (eClo [0, 10, 12, 14] 1 9) := ⟨d2_good, fun t => by rw [c2_clo], 2, rfl, ⟨d2_good.per (by decide), by omega, fun q h1 h2 s' c' hp => by
    have h := (d2_good.per (by decide)).any (by omega) hp
    have e2 : atC [0, 10, 12, 14, 23] 3 14 2 = 12 := by decide
    have e3 : atC [0, 10, 12, 14, 23] 3 14 3 = 14 := by decide
    have e4 : atC [0, 10, 12, 14, 23] 3 14 4 = 23 := by decide
    have e5 : atC [0, 10, 12, 14, 23] 3 14 5 = 26 := by decide
    have hq : q = 1 ∨ q = 2 := by omega
    rcases hq with rfl | rfl
    · have a := h 2 (by decide)
      have b := h 3 (by decide)
      rw [show 2 + 1 = 3 from rfl, e2, e3] at a
      rw [show 3 + 1 = 4 from rfl, e3, e4] at b
      omega
    · have a := h 2 (by decide)
      have b := h 3 (by decide)
      rw [show 2 + 2 = 4 from rfl, e2, e4] at a
      rw [show 3 + 2 = 5 from rfl, e3, e5] at b
      omega, .inr (by decide)⟩⟩
theorem c1_can : CloCan [0, 4, 4] 1 5 := ⟨by decide, [0, 4], 2, 4, d1_form, by rw [comL_fin (by unfold InfC; decide)]; decide⟩
theorem c2_can : CloCan [0, 10, 12, 14] 1 9 := ⟨by decide, [0, 10, 12, 14, 23], 3, 14, d2_form, by rw [comL_fin (by unfold InfC; decide)]; decide⟩
end Go.Proofs.Ytjjaaknjdmijbaa

namespace Go.Proofs.Ytjjaaknjdmijbaa
open Go.RowKit
set_option linter.unusedSimpArgs false
set_option linter.unusedVariables false

set_option maxRecDepth 100000 in
set_option maxHeartbeats 3200000 in
theorem awake9 (w : World) : Calls Try.prog 41 #[] w (Says (.bool true) w) := by
  have N1 := Lib.hid (show NormC [0, 4, 4] 1 5 [0, 4, 4] 1 5 from by obtain ⟨_, _, h⟩ := norm_self c1_form; exact h)
  have N2 := Lib.hid (show NormC [0, 10, 12, 14] 1 9 [0, 10, 12, 14] 1 9 from by obtain ⟨_, _, h⟩ := norm_self c2_form; exact h)
  obtain ⟨w0, hw0⟩ : ∃ W, w.alloc (.cells #[.int .i64 0, .int .i64 4, .int .i64 4] 3) = W := ⟨_, rfl⟩
  have R0 := Lib.hid (show RowZ w0 (some ⟨w.heap.size, 0, none⟩) 3 3 [0, 4, 4] by rw [← hw0]; exact rowZ_lit w [0, 4, 4] 3 (by decide) (by decide))
  have HB0 := Lib.hid (show Below w.heap.size w w0 by rw [← hw0]; exact below_box _)
  have HW0 := Lib.hid hw0
  clear hw0
  go_enter Try.func41, Try.ntmps41
  go_wp2_with fail
  try rw [HW0.out]
  refine (clof_any (some ⟨w.heap.size, 0, none⟩) 3 3 [0, 4, 4] 1 5 c1_good N1.out _ R0.out).mono ?_
  rintro e v1 ⟨hb, ⟨a1, n1, cap1, z1, p1, i1, rfl, hr, hf, _, _, hx⟩ | ⟨_, hno⟩⟩
  rotate_left
  · exact absurd c1_can hno
  obtain ⟨w1, hw⟩ : ∃ W, v1.alloc (.cells #[.slice a1 n1 cap1, .int .i64 p1, .int .i64 i1] 24) = W := ⟨_, rfl⟩
  have hz : Below w0.heap.size w0 w1 := by rw [← hw]; exact hb.trans ((below_box _).mono hb.size)
  have X1 := Lib.hid (show Bx w1 v1.heap.size a1 n1 cap1 p1 i1 z1 by rw [← hw]; exact Bx.new hr)
  have HB1 := Lib.hid (HB0.out.trans (hz.mono HB0.out.size))
  have HF1 := Lib.hid (And.intro hf.1 (hf.unique d1_form))
  have HW1 := Lib.hid hw
  clear hb hr hf hx hz hw HB0 HW0 R0
  obtain ⟨w2, hw2⟩ : ∃ W, w1.alloc (.cells #[.int .i64 0, .int .i64 10, .int .i64 12, .int .i64 14] 3) = W := ⟨_, rfl⟩
  have R2 := Lib.hid (show RowZ w2 (some ⟨w1.heap.size, 0, none⟩) 4 4 [0, 10, 12, 14] by rw [← hw2]; exact rowZ_lit w1 [0, 10, 12, 14] 3 (by decide) (by decide))
  have hz2 : Below w1.heap.size w1 w2 := by rw [← hw2]; exact below_box _
  have X2 := Lib.hid (X1.out.under hz2)
  have HB2 := Lib.hid (HB1.out.trans (hz2.mono HB1.out.size))
  have HW2 := Lib.hid hw2
  clear hw2 hz2 X1 HB1
  go_upto_region 2 with fail
  try rw [HW1.out]
  go_wp2_with fail
  try rw [HW2.out]
  refine (cprove_any (some ⟨w1.heap.size, 0, none⟩) 4 4 [0, 10, 12, 14] 1 9 c2_good N2.out _ R2.out).mono ?_
  rintro e v3 ⟨hb, ⟨a2, n2, cap2, z2, p2, i2, at1, m, mc, ts, rfl, hr, hr2, hc, hx, hx2⟩ | ⟨_, hno⟩⟩
  rotate_left
  · exact absurd c2_can hno
  obtain ⟨fr, hfr⟩ : ∃ k, horC [0, 10, 12, 14] 1 z2 p2 (comL 1 z2 p2) = k := ⟨_, rfl⟩
  rw [hfr]
  obtain ⟨w3, hw⟩ : ∃ W, v3.alloc (.cells #[.slice a2 n2 cap2, .int .i64 p2, .int .i64 i2, .int .i64 fr, .slice at1 m mc] 59) = W := ⟨_, rfl⟩
  have hz3 : Below v3.heap.size v3 w3 := by rw [← hw]; exact below_box _
  have hz : Below w2.heap.size w2 w3 := hb.trans (hz3.mono hb.size)
  have X3 := Lib.hid (X2.out.under hz)
  have HB3 := Lib.hid (HB2.out.trans (hz.mono HB2.out.size))
  have XC := Lib.hid (show P5 w3 v3.heap.size (.slice a2 n2 cap2) (.int .i64 p2) (.int .i64 i2) (.int .i64 fr) (.slice at1 m mc) by rw [← hw]; exact p5_new v3 _ _ _ _ _ _)
  have RC := Lib.hid (hr.under hz3)
  have HF2 := Lib.hid (And.intro hc.form.1 (hc.form.unique d2_form))
  have HW3 := Lib.hid hw
  clear hb hr hr2 hc hx hx2 hz hz3 hw hfr X2 HB2 HW1 HW2 R2
  go_upto_region 3 with fail
  try rw [HW3.out]
  obtain ⟨⟨c0, c1, c2, f0, f1, f2⟩, c3, c4, f3, f4⟩ := XC.out
  go_wp2_with fail
  refine (value_at a2 n2 cap2 z2 p2 i2 HF2.out.1 9 9 rfl (by omega) 42 (by obtain ⟨_, rfl, rfl, rfl⟩ := HF2.out; decide) _ RC.out).mono ?_
  rintro e w4 ⟨rfl, hb⟩
  have X4 := Lib.hid (X3.out.under hb)
  have HB4 := Lib.hid (HB3.out.trans (hb.mono HB3.out.size))
  clear hb c0 c1 c2 f0 f1 f2 c3 c4 f3 f4 X3 HB3 HW3 XC RC
  obtain ⟨w5, hw5⟩ : ∃ W, w4.alloc (.cells #[.int .i64 0] 3) = W := ⟨_, rfl⟩
  have R5 := Lib.hid (show RowZ w5 (some ⟨w4.heap.size, 0, none⟩) 1 1 [0] by rw [← hw5]; exact rowZ_lit w4 [0] 3 (by decide) (by decide))
  have hz5 : Below w4.heap.size w4 w5 := by rw [← hw5]; exact below_box _
  have X5 := Lib.hid (X4.out.under hz5)
  have HB5 := Lib.hid (HB4.out.trans (hz5.mono HB4.out.size))
  have HW5 := Lib.hid hw5
  clear hw5 hz5 X4 HB4
  go_wp2_with fail
  try rw [HW5.out]
  refine (csub_ok (some ⟨w4.heap.size, 0, none⟩) 1 1 [0] 1 3 c3_good true ⟨fun _ => c3_sub, fun _ => rfl⟩ _ R5.out).mono ?_
  rintro e w6 ⟨rfl, hb⟩
  have X6 := Lib.hid (X5.out.under hb)
  have HB6 := Lib.hid (HB5.out.trans (hb.mono HB5.out.size))
  clear hb X5 HB5 HW5 R5
  obtain ⟨c0, c1, c2, c3, c4, c5⟩ := X6.out.box
  go_wp2_with fail
  have I1 := HF1.out.1
  refine (rvalid_any a1 n1 cap1 z1 p1 i1 ⟨by omega, by have := I1.p2; omega⟩ ⟨by have := I1.i0; omega, by have := I1.i1; omega⟩ true ((okC_iff z1 p1 i1).2 I1) _ X6.out.row).mono ?_
  rintro e w7 ⟨rfl, hb⟩
  have X7 := Lib.hid (X6.out.under hb)
  have HB7 := Lib.hid (HB6.out.trans (hb.mono HB6.out.size))
  clear hb c0 c1 c2 c3 c4 c5 X6 HB6 I1
  obtain ⟨c0, c1, c2, c3, c4, c5⟩ := X7.out.box
  go_wp2_with fail
  refine (rat_at a1 n1 cap1 z1 p1 i1 HF1.out.1 2 2 rfl (by omega) 4 (by obtain ⟨_, rfl, rfl, rfl⟩ := HF1.out; decide) _ X7.out.row).mono ?_
  rintro e w8 ⟨rfl, hb⟩
  have X8 := Lib.hid (X7.out.under hb)
  have HB8 := Lib.hid (HB7.out.trans (hb.mono HB7.out.size))
  clear hb c0 c1 c2 c3 c4 c5 X7 HB7
  obtain ⟨c0, c1, c2, c3, c4, c5⟩ := X8.out.box
  go_wp2_with fail
  refine (rat_at a1 n1 cap1 z1 p1 i1 HF1.out.1 3 3 rfl (by omega) 8 (by obtain ⟨_, rfl, rfl, rfl⟩ := HF1.out; decide) _ X8.out.row).mono ?_
  rintro e w9 ⟨rfl, hb⟩
  have X9 := Lib.hid (X8.out.under hb)
  have HB9 := Lib.hid (HB8.out.trans (hb.mono HB8.out.size))
  clear hb c0 c1 c2 c3 c4 c5 X8 HB8
  obtain ⟨c0, c1, c2, c3, c4, c5⟩ := X9.out.box
  go_wp2_with fail
  refine (rat_at a1 n1 cap1 z1 p1 i1 HF1.out.1 5 5 rfl (by omega) 12 (by obtain ⟨_, rfl, rfl, rfl⟩ := HF1.out; decide) _ X9.out.row).mono ?_
  rintro e w10 ⟨rfl, hb⟩
  have HB10 := Lib.hid (HB9.out.trans (hb.mono HB9.out.size))
  clear hb
  go_wp2_with fail
  go_ret
  exact ⟨rfl, HB10.out⟩
end Go.Proofs.Ytjjaaknjdmijbaa
