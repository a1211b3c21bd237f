/- The walk of ClosureSums. By the verifier's side. -/
import Derived.Test.YtcpfphlijeajiaaGbCloFCloXCloG
import Derived.Test.YtcpfphlijeajiaaGbCloH
import Derived.Test.YtcpfphlijeajiaaGbKeepC
namespace Go.Proofs.Ytcpfphlijeajiaa
open Go.RowKit
set_option linter.unusedSimpArgs false
set_option linter.unusedVariables false

theorem P5.apart {w w' : World} {b q : Nat} {x0 x1 x2 x3 x4 : Value} (h : P5 w b x0 x1 x2 x3 x4) (ha : Apart q w w') (hq : b ≠ q) : P5 w' b x0 x1 x2 x3 x4 := by
  obtain ⟨h1, h2⟩ := acell ha
  have l := h.lt
  exact ⟨h.lo.apart ha hq, (h1 b 3 l hq).trans h.c3, (h1 b 4 l hq).trans h.c4, (h2 b 3 l hq).trans h.f3, (h2 b 4 l hq).trans h.f4⟩
/-- What Prove hands back is a certificate. -/
theorem CloIs.check {ys hs ts : List Int} {q r : Nat} {jnc knc : Int} (g : Good ys q jnc) (h : CloIs ys q jnc hs r knc ts) : CheckIs ys q jnc hs r knc (horC ys q hs r (comL q hs r) : Nat) ts := by
  obtain ⟨hf, h60, hl, rfl⟩ := h
  have k := hf.1
  have k1 := k.p1
  have k3 := k.p3
  have he : eC hs r knc = eClo ys q jnc := funext hf.2.1
  have hle : ∀ t, ole (eC hs r knc t) (eC ys q jnc t) := fun t => by
    rw [he]
    rcases Nat.eq_zero_or_pos t with rfl | ht
    · intro y hy; exact ⟨0, rfl, (eC_bd g hy).1⟩
    · exact clo_le ht
  refine ⟨by obtain ⟨_, _, h⟩ := norm_self hf; exact h, ?_, hl, rfl, firsts_length _ _, hle, by rw [he]; exact clo_sub _, ?_, fun t t1 t2 => ?_⟩
  · have e : atC hs r knc 0 = 0 := by rw [← enc_eC, he]; rfl
    rwa [atC_lt (by omega)] at e
  · have : 0 < horC ys q hs r (comL q hs r) + comL q hs r := by unfold horC; omega
    rw [firsts_getD _ _ _ this]; rfl
  · rw [firsts_length] at t2
    refine ⟨_, firsts_getD _ _ _ t2, ?_⟩
    exact (leastA_ex (P := fun s => CAtt ys q jnc hs r knc (horC ys q hs r (comL q hs r)) s t) (catt_ex g k (fun u _ => by rw [he]) hle hl rfl t1 t2)).1

/-- What stands while sums are tried. -/
structure SM (W : World) (F C : Nat) (af : Option Addr) (nf capf : Nat) (zf : List Int) (pf : Nat) (jf : Int) (ah : Option Addr) (nh caph : Nat) (zh : List Int) (ph : Nat) (jh : Int) (fr : Nat) (at1 : Option Addr) (m mc : Nat) (ts : List Int) (ra : Option Addr) (rn rc : Nat) (u : World) : Prop where
  src : SrcAt u W.heap.size ra rn rc
  f : Bx u F af nf capf pf jf zf
  c : P5 u C (.slice ah nh caph) (.int .i64 ph) (.int .i64 jh) (.int .i64 fr) (.slice at1 m mc)
  r1 : RowZ u ah nh caph zh
  r2 : RowZ u at1 m mc ts
  below : Below W.heap.size W u
  xf : ∀ x, af = some x → ¬ x.block = W.heap.size
  xh : ∀ x, ah = some x → ¬ x.block = W.heap.size
  xt : ∀ x, at1 = some x → ¬ x.block = W.heap.size
  nF : F ≠ W.heap.size
  nC : C ≠ W.heap.size
theorem SM.read {W u v : World} {F C : Nat} {af : Option Addr} {nf capf : Nat} {zf : List Int} {pf : Nat} {jf : Int} {ah : Option Addr} {nh caph : Nat} {zh : List Int} {ph : Nat} {jh : Int} {fr : Nat} {at1 : Option Addr} {m mc : Nat} {ts : List Int} {ra : Option Addr} {rn rc : Nat} (h : SM W F C af nf capf zf pf jf ah nh caph zh ph jh fr at1 m mc ts ra rn rc u) (hs : SrcAt v W.heap.size ra rn rc) (ha : Apart W.heap.size u v) (hb : Below W.heap.size W v) : SM W F C af nf capf zf pf jf ah nh caph zh ph jh fr at1 m mc ts ra rn rc v :=
  ⟨hs, ⟨h.f.box.apart ha h.nF, h.f.row.apart ha h.xf⟩, h.c.apart ha h.nC, h.r1.apart ha h.xh, h.r2.apart ha h.xt, hb, h.xf, h.xh, h.xt, h.nF, h.nC⟩
theorem SM.call {W u v : World} {F C : Nat} {af : Option Addr} {nf capf : Nat} {zf : List Int} {pf : Nat} {jf : Int} {ah : Option Addr} {nh caph : Nat} {zh : List Int} {ph : Nat} {jh : Int} {fr : Nat} {at1 : Option Addr} {m mc : Nat} {ts : List Int} {ra : Option Addr} {rn rc : Nat} (h : SM W F C af nf capf zf pf jf ah nh caph zh ph jh fr at1 m mc ts ra rn rc u) (hb : Below u.heap.size u v) : SM W F C af nf capf zf pf jf ah nh caph zh ph jh fr at1 m mc ts ra rn rc v :=
  ⟨src_under h.src hb, h.f.under hb, h.c.below hb, h.r1.under hb, h.r2.under hb, h.below.trans (hb.mono h.below.size), h.xf, h.xh, h.xt, h.nF, h.nC⟩

set_option maxRecDepth 100000 in
set_option maxHeartbeats 3200000 in
theorem closureSums_walk (W : World) (a : Option Addr) (n cap : Nat) (hrow : RowAt W a n cap) :
    Calls Try.prog 6 #[.slice a n cap] W fun e w' => e = .returned (.bool true) ∧ Below W.heap.size W w' := by
  have HR := Lib.hid hrow
  clear hrow
  go_enter Try.func6, Try.ntmps6
  go_wp2_with fail
  refine (new_any a n cap _ HR.out).mono ?_
  rintro e u1 ⟨rfl, hb1, hz1, ra, rn, rc, hs1⟩
  have HB1 := Lib.hid hb1
  have HS1 := Lib.hid hs1
  have Z1 := Lib.hid hz1
  clear hb1 hz1 hs1
  go_wp2_with fail
  refine (curve_any 7 (by omega) (by omega) _ ra rn rc _ HS1.out).mono ?_
  rintro e u2 ⟨af, nf, capf, zf, pf, jf, rfl, hs2, he2, hr2, ok2, hx2⟩
  have GF := Lib.hid ok2.good
  have HB2 := Lib.hid (HB1.out.trans (he2.below (Nat.le_refl _) HB1.out.size))
  obtain ⟨yf, qf, kf, nf1⟩ := GF.out.norm_ex
  have NF := Lib.hid (And.intro nf1 (clo_norm GF.out nf1))
  obtain ⟨w0, hw⟩ : ∃ w', u2.alloc (.cells #[.slice af nf capf, .int .i64 pf, .int .i64 jf] 24) = w' := ⟨_, rfl⟩
  have hz : Below u2.heap.size u2 w0 := by rw [← hw]; exact below_box _
  have HS2 := Lib.hid (show SrcAt w0 W.heap.size ra rn rc from src_under hs2 hz)
  have X2 := Lib.hid (show (∀ x, af = some x → ¬ x.block = W.heap.size) ∧ W.heap.size < u2.heap.size from ⟨fun x hx => by have := hx2 x hx; have := Z1.out; omega, lt_of_cell (src_cell hs2)⟩)
  have Xf := Lib.hid (show Bx w0 u2.heap.size af nf capf pf jf zf by rw [← hw]; exact Bx.new hr2)
  have HB3 := Lib.hid (HB2.out.trans (hz.mono HB2.out.size))
  have HW0 := Lib.hid hw
  clear hs2 he2 hr2 ok2 hx2 nf1 hz hw HB1 HB2 HS1 Z1
  go_upto_region 3 with fail
  try rw [HW0.out]
  clear HW0
  obtain ⟨F, hF⟩ : ∃ F, u2.heap.size = F := ⟨_, rfl⟩
  rw [hF] at Xf X2
  try rw [hF]
  clear hF
  obtain ⟨c0, c1, c2, c3, c4, c5⟩ := Xf.out.box
  go_wp2_with fail
  clear c0 c1 c2 c3 c4 c5
  refine (cprove_any af nf capf zf pf jf GF.out NF.out.1 _ Xf.out.row).mono ?_
  rintro e v1 ⟨hb, ⟨ah, nh, caph, zh, ph, jh, at1, m, mc, ts, rfl, hr, hr2, hc, hx, hx2⟩ | ⟨rfl, hno⟩⟩
  rotate_left
  · have HBQ := Lib.hid (HB3.out.trans ((hb.trans ((below_box (.cells #[.slice none 0 0, .int .i64 0, .int .i64 0, .int .i64 0, .slice none 0 0] 36)).mono hb.size)).mono HB3.out.size))
    clear hb hno
    go_wp2_with fail
    refine (awake9 _).mono ?_
    rintro e y9 ⟨rfl, hb⟩
    have HBZ := Lib.hid (HBQ.out.trans (hb.mono HBQ.out.size))
    clear hb
    go_wp2_with fail
    go_ret
    exact ⟨rfl, HBZ.out⟩
  obtain ⟨fr, hfr⟩ : ∃ k, horC yf qf zh ph (comL qf zh ph) = k := ⟨_, rfl⟩
  rw [hfr]
  obtain ⟨w1, hw⟩ : ∃ w', v1.alloc (.cells #[.slice ah nh caph, .int .i64 ph, .int .i64 jh, .int .i64 fr, .slice at1 m mc] 36) = w' := ⟨_, rfl⟩
  have hzz : Below v1.heap.size v1 w1 := by rw [← hw]; exact below_box _
  have hz : Below w0.heap.size w0 w1 := hb.trans (hzz.mono hb.size)
  have hws : W.heap.size < w0.heap.size := lt_of_cell (src_cell HS2.out)
  have S1 := Lib.hid (show SM W F v1.heap.size af nf capf zf pf jf ah nh caph zh ph jh fr at1 m mc ts ra rn rc w1 from ⟨src_under HS2.out hz, Xf.out.under hz, by rw [← hw]; exact p5_new v1 _ _ _ _ _ _, hr.under hzz, hr2.under hzz, HB3.out.trans (hz.mono HB3.out.size), X2.out.1, fun x h => by have := hx x h; omega, fun x h => by have := hx2 x h; omega, by have := X2.out.2; omega, by have := hb.size; omega⟩)
  have CI := Lib.hid (show CheckIs yf qf kf zh ph jh (fr : Nat) ts from by rw [← hfr]; exact hc.check (NF.out.1.good GF.out))
  have HF := Lib.hid (show Good zh ph jh ∧ eC zh ph jh = oclo (eC zf pf jf) from ⟨hc.form.1, by rw [funext hc.form.2.1, NF.out.2]⟩)
  have FR := Lib.hid (show fr ≤ 100000 from by
    rw [← hfr]
    have := hc.l
    have := hc.form.1.few
    have := hc.few
    unfold horC; omega)
  have HW1 := Lib.hid hw
  clear hb hr hr2 hc hx hx2 hzz hz hws hw hfr Xf HB3 HS2 X2
  go_upto_region 4 with fail
  try rw [HW1.out]
  clear HW1
  obtain ⟨C, hC⟩ : ∃ C, v1.heap.size = C := ⟨_, rfl⟩
  rw [hC] at S1
  try rw [hC]
  clear hC
  go_wp2_with fail
  go_loopg [7, 8, 9] 12 (fun g s7 s8 s9 wx => ∃ (k t : Nat) (sm : Int), k + g = 12 ∧ s7 = .int .i64 t ∧ s8 = .int .i64 sm ∧ s9 = .int .i64 k ∧ t ≤ 9 * k ∧ (0 ≤ sm ∧ sm ≤ (k : Int) * 10737418240) ∧ Hid (ole (oclo (eC zf pf jf) t) (some sm)) ∧ Hid (SM W F C af nf capf zf pf jf ah nh caph zh ph jh fr at1 m mc ts ra rn rc wx))
  case atStart => exact ⟨0, 0, 0, by omega, by go_num, by go_num, by go_num, by omega, by omega, ole_refl _, S1⟩
  case round =>
    obtain ⟨k, t, sm, hkg, rfl, rfl, rfl, htk, hsm, LE, ST⟩ := hrel
    obtain ⟨w2, rfl⟩ : ∃ u : World, u = wr := ⟨_, rfl⟩
    clear S1
    by_cases hk : k < 12
    · obtain ⟨g, rfl⟩ : ∃ g, gk = g + 1 := ⟨gk - 1, by omega⟩
      have hki : (k : Int) < 12 := by omega
      have hkw : IntKind.i64.wrap ((k : Int) + 1) = ((k + 1 : Nat) : Int) := by rw [IntWalk.i64_in _ ⟨by omega, by omega⟩]; omega
      go_wp2_with fail
      refine (n_any 9 (by omega) (by omega) _ ra rn rc _ ST.out.src).mono ?_
      rintro e w3 ⟨r, ⟨r0, r1⟩, rfl, hs, he⟩
      have S3 := Lib.hid (ST.out.read hs he.apart (ST.out.below.trans (he.below (Nat.le_refl _))))
      clear hs he ST
      obtain ⟨m1, hm1⟩ : ∃ m1 : Nat, 1 + r = (m1 : Int) := ⟨(1 + r).toNat, by omega⟩
      have hmw : IntKind.i64.wrap (1 + r) = (m1 : Int) := by rw [hm1]; exact IntWalk.i64_in _ ⟨by omega, by omega⟩
      have hm19 : 1 ≤ m1 ∧ m1 ≤ 9 := by omega
      obtain ⟨c0, c1, c2, c3, c4, c5⟩ := S3.out.f.box
      obtain ⟨v, hv⟩ : ∃ v, atC zf pf jf m1 = v := ⟨_, rfl⟩
      have HV := Lib.hid hv
      clear hv
      go_wp2_with fail
      clear c0 c1 c2 c3 c4 c5
      refine (rat_at af nf capf zf pf jf GF.out _ m1 rfl (by omega) v HV.out _ S3.out.f.row).mono ?_
      rintro e w4 ⟨rfl, hb⟩
      have S4 := Lib.hid (S3.out.call hb)
      clear hb S3
      by_cases hi : v = 4611686018427387904
      · have t1 : (v == 4611686018427387904) = true := by simpa using hi
        clear hi
        go_wp2_with fail
        go_roundg g
        case measure => omega
        case rel => exact ⟨k + 1, t, sm, by omega, by go_num, by go_num, by go_num, by omega, by omega, LE, S4⟩
      · have t1 : (v == 4611686018427387904) = false := by simpa using hi
        obtain ⟨hvb, hve⟩ : (0 ≤ v ∧ v ≤ 10737418240) ∧ eC zf pf jf m1 = some v := by
          rcases eC_cases GF.out (show m1 ≤ 1048576 by omega) with ⟨a1, a2⟩ | ⟨x, a1, a2, a3, a4⟩
          · exact absurd (HV.out.symm.trans a2) hi
          · obtain rfl : x = v := by rw [← a2]; exact HV.out
            exact ⟨⟨a3, by omega⟩, a1⟩
        have LE2 := Lib.hid (clo_add hm19.1 LE.out hve)
        clear hi hve
        obtain ⟨t2, ht2⟩ : ∃ t2, t + m1 = t2 := ⟨_, rfl⟩
        rw [ht2] at LE2
        have e1 : (t : Int) + (m1 : Int) = (t2 : Int) := by omega
        have e2 : IntKind.i64.wrap (t2 : Int) = (t2 : Int) := IntWalk.i64_in _ ⟨by omega, by omega⟩
        obtain ⟨s2, hs2⟩ : ∃ s2, sm + v = s2 := ⟨_, rfl⟩
        rw [hs2] at LE2
        have e3 : IntKind.i64.wrap s2 = s2 := by rw [← hs2]; exact IntWalk.i64_in _ ⟨by omega, by omega⟩
        obtain ⟨x, hx, hxl⟩ := LE2.out s2 rfl
        have HX := Lib.hid (show atC zh ph jh t2 = x from by rw [← enc_eC, HF.out.2, hx]; rfl)
        have e4 : ¬ s2 < x := by omega
        have e5 : decide (s2 < x) = false := decide_eq_false e4
        clear hx
        obtain ⟨⟨c0, c1, c2, f0, f1, f2⟩, c3, c4, f3, f4⟩ := S4.out.c
        go_wp2_with fail
        clear c0 c1 c2 f0 f1 f2 c3 c4 f3 f4
        refine (value_at ah nh caph zh ph jh HF.out.1 _ t2 rfl (by omega) x HX.out _ S4.out.r1).mono ?_
        rintro e w5 ⟨rfl, hb⟩
        have S5 := Lib.hid (S4.out.call hb)
        clear hb S4
        go_wp2_with fail
        go_roundg g
        case measure => omega
        case rel => exact ⟨k + 1, t2, s2, by omega, by go_num, by go_num, by go_num, by omega, by omega, LE2, S5⟩
    · obtain rfl : k = 12 := by omega
      obtain ⟨d0, d1, d2, d3, d4, d5⟩ := ST.out.f.box
      obtain ⟨⟨c0, c1, c2, f0, f1, f2⟩, c3, c4, f3, f4⟩ := ST.out.c
      have fr1 := FR.out
      go_wp2_with fail
      clear c0 c1 c2 f0 f1 f2 c3 c4 f3 f4 d0 d1 d2 d3 d4 d5
      refine (ccheck_any af nf capf zf pf jf ah nh caph zh ph jh fr at1 m mc ts GF.out NF.out.1 HF.out.1 ⟨by omega, by omega⟩ true ⟨fun _ => CI.out, fun _ => rfl⟩ _ ST.out.f.row ST.out.r1 ST.out.r2).mono ?_
      rintro e w6 ⟨rfl, hb⟩
      have HBQ := Lib.hid (ST.out.below.trans (hb.mono ST.out.below.size))
      clear hb
      go_wp2_with fail
      refine (awake9 _).mono ?_
      rintro e y9 ⟨rfl, hb⟩
      have HBZ := Lib.hid (HBQ.out.trans (hb.mono HBQ.out.size))
      clear hb
      go_wp2_with fail
      go_ret
      exact ⟨rfl, HBZ.out⟩

end Go.Proofs.Ytcpfphlijeajiaa
