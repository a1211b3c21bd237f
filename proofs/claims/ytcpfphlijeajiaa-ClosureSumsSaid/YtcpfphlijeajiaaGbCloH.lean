/- Check of the closure. By the verifier's side. -/
import Derived.Test.YtcpfphlijeajiaaGbCloFCloXCloG
import Derived.Test.YtcpfphlijeajiaaGbCurX
import Derived.Test.YtcpfphlijeajiaaGbRefARefP
namespace Go.Proofs.Ytcpfphlijeajiaa
open Go.RowKit
set_option linter.unusedSimpArgs false
set_option linter.unusedVariables false

/-- What a certificate must say, for a valid curve. -/
structure CheckIs (ys : List Int) (q : Nat) (jnc : Int) (hs : List Int) (r : Nat) (knc fr : Int) (ts : List Int) : Prop where
  norm : NormC hs r knc hs r knc
  zero : hs.getD 0 0 = 0
  l : comL q hs r ≤ 120
  fr : fr = (horC ys q hs r (comL q hs r) : Nat)
  len : ts.length = horC ys q hs r (comL q hs r) + comL q hs r
  le : ∀ t, ole (eC hs r knc t) (eC ys q jnc t)
  sub : SubA (eC hs r knc)
  z0 : ts.getD 0 0 = 0
  att : ∀ t, 1 ≤ t → t < ts.length → ∃ s : Nat, ts.getD t 0 = s ∧ CAtt ys q jnc hs r knc (horC ys q hs r (comL q hs r)) s t

/-- While a certificate is checked. -/
structure CK (w : World) (a : Option Addr) (n cap : Nat) (zs : List Int) (p : Nat) (inc : Int) (a2 : Option Addr) (n2 cap2 : Nat) (hs : List Int) (r : Nat) (knc : Int) (fr : Int) (at1 : Option Addr) (m mc : Nat) (ts : List Int) (u : World) : Prop where
  fb : Cur3 u w.heap.size (.slice a n cap) (.int .i64 p) (.int .i64 inc)
  cb : P5 u (w.heap.size + 1) (.slice a2 n2 cap2) (.int .i64 r) (.int .i64 knc) (.int .i64 fr) (.slice at1 m mc)
  r1 : RowZ u a n cap zs
  r2 : RowZ u a2 n2 cap2 hs
  r3 : RowZ u at1 m mc ts
  below : Below w.heap.size w u
  sz : w.heap.size + 1 < u.heap.size
theorem CK.call {w u v : World} {a : Option Addr} {n cap : Nat} {zs : List Int} {p : Nat} {inc : Int} {a2 : Option Addr} {n2 cap2 : Nat} {hs : List Int} {r : Nat} {knc : Int} {fr : Int} {at1 : Option Addr} {m mc : Nat} {ts : List Int} (h : CK w a n cap zs p inc a2 n2 cap2 hs r knc fr at1 m mc ts u) (hb : Below u.heap.size u v) : CK w a n cap zs p inc a2 n2 cap2 hs r knc fr at1 m mc ts v :=
  ⟨h.fb.below hb, h.cb.below hb, h.r1.under hb, h.r2.under hb, h.r3.under hb, h.below.trans (hb.mono h.below.size), Nat.lt_of_lt_of_le h.sz hb.size⟩

set_option maxRecDepth 100000 in
set_option maxHeartbeats 6400000 in
theorem ccheck_any (a : Option Addr) (n cap : Nat) (zs : List Int) (p : Nat) (inc : Int) (a2 : Option Addr) (n2 cap2 : Nat) (hs : List Int) (r : Nat) (knc : Int) (fr : Int) (at1 : Option Addr) (m mc : Nat) (ts : List Int) (g : Good zs p inc) {ys : List Int} {q : Nat} {jnc : Int} (hn : NormC zs p inc ys q jnc) (k : Good hs r knc) (hfr : In64 fr) (b : Bool) (hb : b = true ↔ CheckIs ys q jnc hs r knc fr ts) (w : World) (h1 : RowZ w a n cap zs) (h2 : RowZ w a2 n2 cap2 hs) (h3 : RowZ w at1 m mc ts) :
    Calls Try.prog 29 #[curV a n cap p inc, .agg #[.slice a2 n2 cap2, .int .i64 r, .int .i64 knc, .int .i64 fr, .slice at1 m mc]] w (Says (.bool b) w) := by
  have G0 := Lib.hid g
  have HN := Lib.hid hn
  have GY := Lib.hid (hn.good g)
  have NY := Lib.hid (norm_twice hn g)
  have K0 := Lib.hid k
  have HB := Lib.hid hb
  have X1 := Lib.hid (fun x hx hn => h1.far x hx hn)
  have X2 := Lib.hid (fun x hx hn => h2.far x hx hn)
  have X3 := Lib.hid (fun x hx hn => h3.far x hx hn)
  have LN := Lib.hid (show ts.length = m from h3.len)
  have hm := h3.sm
  obtain ⟨W, hW⟩ : ∃ W, (w.alloc (.cells #[.slice a n cap, .int .i64 p, .int .i64 inc] 24)).alloc (.cells #[.slice a2 n2 cap2, .int .i64 r, .int .i64 knc, .int .i64 fr, .slice at1 m mc] 36) = W := ⟨_, rfl⟩
  have hB : Below w.heap.size w W := by rw [← hW]; exact ((Below.refl _ _).alloc (Nat.le_refl _) _).alloc (by simp) _
  have T0 := Lib.hid (show CK w a n cap zs p inc a2 n2 cap2 hs r knc fr at1 m mc ts W from ⟨by rw [← hW]; exact (Cur3.new w _ _ _ _).alloc _, by
    rw [← hW]
    have := p5_new (w.alloc (.cells #[.slice a n cap, .int .i64 p, .int .i64 inc] 24)) (.slice a2 n2 cap2) (.int .i64 r) (.int .i64 knc) (.int .i64 fr) (.slice at1 m mc) 36
    rwa [show (w.alloc (.cells #[.slice a n cap, .int .i64 p, .int .i64 inc] 24)).heap.size = w.heap.size + 1 by simp] at this, h1.under hB, h2.under hB, h3.under hB, hB, by rw [← hW]; simp⟩)
  have HW := Lib.hid hW
  obtain ⟨c0, c1, c2, f0, f1, f2⟩ := T0.out.fb
  clear g hn k hb h1 h2 h3 hB hW
  go_enter Try.func29, Try.ntmps29
  go_wp2_with fail
  try rw [HW.out]
  refine (normal_ok a n cap zs p inc G0.out _ T0.out.r1).mono ?_
  rintro e w1 ⟨a3, n3, cap3, x1, r1, k1, rfl, hb, hr, hnn, hx⟩
  obtain ⟨rfl, rfl, rfl⟩ := hnn.canon G0.out G0.out HN.out (fun _ => rfl)
  obtain ⟨W1, hW1⟩ : ∃ W', (((w1.setCell ⟨w.heap.size, 0, none⟩ (.slice a3 n3 cap3)).setCell ⟨w.heap.size, 1, none⟩ (.int .i64 r1)).setCell ⟨w.heap.size, 2, none⟩ (.int .i64 k1)) = W' := ⟨_, rfl⟩
  have T1 := Lib.hid (show CK w a3 n3 cap3 x1 r1 k1 a2 n2 cap2 hs r knc fr at1 m mc ts W1 from by
    have h1 := T0.out.call hb
    have q1 : ∀ x, a3 = some x → 1 ≤ n3 → x.block ≠ w.heap.size := fun x h _ => by have := hx x h; have := T0.out.sz; omega
    have q2 : ∀ x, a2 = some x → 1 ≤ n2 → x.block ≠ w.heap.size := fun x h h' => by have := X2.out x h h'; omega
    have q3 : ∀ x, at1 = some x → 1 ≤ m → x.block ≠ w.heap.size := fun x h h' => by have := X3.out x h h'; omega
    rw [← hW1]
    exact ⟨h1.fb.set _ _ _, ((h1.cb.other (by omega) _ _).other (by omega) _ _).other (by omega) _ _, ((hr.store q1 _ _).store q1 _ _).store q1 _ _, ((h1.r2.store q2 _ _).store q2 _ _).store q2 _ _, ((h1.r3.store q3 _ _).store q3 _ _).store q3 _ _, below_set3 h1.below (Nat.le_refl _) _ _ _, by simpa using h1.sz⟩)
  have HW1 := Lib.hid hW1
  clear c0 c1 c2 f0 f1 f2
  obtain ⟨c0, c1, c2, f0, f1, f2⟩ := T0.out.fb.below hb
  clear hb hr hx hW1 hnn
  go_upto_region 2 with fail
  try rw [HW1.out]
  clear c0 c1 c2 f0 f1 f2 T0 HW HW1 X1 X2 X3
  obtain ⟨⟨c0, c1, c2, f0, f1, f2⟩, c3, c4, f3, f4⟩ := T1.out.cb
  go_wp2_with fail
  refine (normal_ok a2 n2 cap2 hs r knc K0.out _ T1.out.r2).mono ?_
  rintro e w2 ⟨a5, n5, cap5, x2, r2, k2, rfl, hb, hr, hnn, hx⟩
  obtain ⟨W3, hW3⟩ : ∃ W', w2.alloc (.cells #[.slice a5 n5 cap5, .int .i64 r2, .int .i64 k2] 24) = W' := ⟨_, rfl⟩
  have hbx := qbox_below w2 (.cells #[.slice a5 n5 cap5, .int .i64 r2, .int .i64 k2] 24)
  have T3 := Lib.hid (show CK w a3 n3 cap3 x1 r1 k1 a2 n2 cap2 hs r knc fr at1 m mc ts W3 from by rw [← hW3]; exact (T1.out.call hb).call hbx)
  have X3 := Lib.hid (show Cur3 W3 w2.heap.size (.slice a5 n5 cap5) (.int .i64 r2) (.int .i64 k2) ∧ RowZ W3 a5 n5 cap5 x2 from by rw [← hW3]; exact ⟨Cur3.new w2 _ _ _ _, hr.under hbx⟩)
  have HNN := Lib.hid hnn
  have HW3 := Lib.hid hW3
  clear hb hr hx hnn hbx hW3 c0 c1 c2 f0 f1 f2 c3 c4 f3 f4
  go_upto_region 5 with fail
  try rw [HW3.out]
  clear HW3 T1
  obtain ⟨hbk, hhb⟩ : ∃ k, w2.heap.size = k := ⟨_, rfl⟩
  rw [hhb] at X3
  try rw [hhb]
  clear hhb
  obtain ⟨⟨c0, c1, c2, f0, f1, f2⟩, c3, c4, f3, f4⟩ := T3.out.cb
  obtain ⟨d0, d1, d2, g0, g1, g2⟩ := X3.out.1
  go_wp2_with fail
  clear c0 c1 c2 f0 f1 f2 c3 c4 f3 f4 d0 d1 d2 g0 g1 g2
  have I2 := Lib.hid (HNN.out.good K0.out)
  have i1 : In64 (r2 : Int) := ⟨by omega, by have := I2.out.p2; omega⟩
  have i2 : In64 k2 := ⟨by have := I2.out.i0; omega, by have := I2.out.i1; omega⟩
  have i3 : In64 (r : Int) := ⟨by omega, by have := K0.out.p2; omega⟩
  have i4 : In64 knc := ⟨by have := K0.out.i0; omega, by have := K0.out.i1; omega⟩
  by_cases hsame : x2 = hs ∧ r2 = r ∧ k2 = knc
  rotate_left
  · have hbf : b = false := by
      cases hbb : b with
      | false => rfl
      | true =>
        exfalso
        obtain ⟨e1, e2, e3⟩ := HNN.out.canon K0.out K0.out (HB.out.1 hbb).norm (fun _ => rfl)
        exact hsame ⟨e1, e2, e3⟩
    subst hbf
    have HS := Lib.hid (show sameB x2 r2 k2 hs r knc = false from by
      cases hq : sameB x2 r2 k2 hs r knc with
      | false => rfl
      | true =>
        exfalso
        obtain ⟨e1, e2, e3⟩ := sameB_iff.1 hq
        exact hsame ⟨e1, by omega, e3⟩)
    clear hsame
    refine (same_any a5 n5 cap5 x2 r2 k2 a2 n2 cap2 hs r knc false HS.out _ X3.out.2 T3.out.r2).mono ?_
    rintro e w4 ⟨rfl, hb⟩
    have BL := Lib.hid (T3.out.below.trans (hb.mono T3.out.below.size))
    clear hb
    go_wp2_with fail
    go_ret
    exact ⟨rfl, BL.out⟩
  obtain ⟨rfl, rfl, rfl⟩ := hsame
  have HS := Lib.hid (show sameB x2 r2 k2 x2 r2 k2 = true from sameB_iff.2 ⟨rfl, rfl, rfl⟩)
  refine (same_any a5 n5 cap5 x2 r2 k2 a2 n2 cap2 x2 r2 k2 true HS.out _ X3.out.2 T3.out.r2).mono ?_
  rintro e w4 ⟨rfl, hb⟩
  have T4 := Lib.hid (T3.out.call hb)
  have X4 := Lib.hid (And.intro (X3.out.1.below hb) (X3.out.2.under hb))
  clear hb T3 X3
  have hl2 : 1 ≤ n5 := by have := I2.out.p1; have := I2.out.p3; have := X4.out.2.len; omega
  have hl2i : (0 : Int) < (n5 : Int) := by omega
  obtain ⟨x, hax, hcx⟩ := X4.out.2.cell 0 hl2
  have hcy := hcx
  rw [show x.add 0 = x by cases x; rfl] at hcy
  subst hax
  obtain ⟨d0, d1, d2, g0, g1, g2⟩ := X4.out.1
  by_cases hz : x2.getD 0 0 = 0
  rotate_left
  · have hbf : b = false := by
      cases hbb : b with
      | false => rfl
      | true => exact absurd (HB.out.1 hbb).zero hz
    subst hbf
    obtain ⟨v, hv⟩ : ∃ v, x2.getD 0 0 = v := ⟨_, rfl⟩
    rw [hv] at hcx hcy hz
    have t1 : (v != 0) = true := by simpa using hz
    have BL := Lib.hid T4.out.below
    clear hz hv
    go_wp2_with fail
    go_ret
    exact ⟨rfl, BL.out⟩
  rw [hz] at hcx hcy
  have HZ := Lib.hid hz
  clear hz
  obtain ⟨c0, c1, c2, f0, f1, f2⟩ := T4.out.fb
  go_wp2_with fail
  clear hcx hcy
  refine (qpaired_ok a3 n3 cap3 x1 r1 k1 (some x) n5 cap5 x2 r2 k2 GY.out NY.out I2.out (norm_twice HNN.out K0.out) _ T4.out.r1 X4.out.2).mono ?_
  rintro e w5 ⟨P, rfl, hb, hqs, hqn, rfl, rfl, rfl, rfl⟩
  obtain ⟨W6, hW6⟩ : ∃ W', w5.alloc (cpO P) = W' := ⟨_, rfl⟩
  obtain ⟨hz, pb0, _⟩ := qpair_box hW6
  have T6 := Lib.hid ((T4.out.call hb).call hz)
  have X6 := Lib.hid (And.intro ((X4.out.1.below hb).below hz) ((X4.out.2.under hb).under hz))
  have P6' := Lib.hid pb0
  have QS := Lib.hid hqs
  have QN := Lib.hid (hqn.under hz)
  have HW6 := Lib.hid hW6
  clear hb hW6 hz pb0 hqs hqn c0 c1 c2 f0 f1 f2 d0 d1 d2 g0 g1 g2 T4 X4
  go_upto_region 8 with fail
  try rw [HW6.out]
  clear HW6
  obtain ⟨pbk, hpb⟩ : ∃ k, w5.heap.size = k := ⟨_, rfl⟩
  rw [hpb] at P6'
  try rw [hpb]
  clear hpb
  obtain ⟨⟨e0, e1, e2, i0', i1', i2'⟩, e3, e4, e5, i3', i4', i5'⟩ := P6'.out
  obtain ⟨⟨c0, c1, c2, f0, f1, f2⟩, c3, c4, f3, f4⟩ := T6.out.cb
  have BL := Lib.hid T6.out.below
  have hbig := QS.out.big
  obtain ⟨N, hN⟩ : ∃ N, P.R + P.L = N := ⟨_, rfl⟩
  have hni : (P.R : Int) + (P.L : Int) = (N : Int) := by omega
  have hnw : IntKind.i64.wrap (N : Int) = (N : Int) := IntWalk.i64_in _ ⟨by omega, by omega⟩
  have HRL := Lib.hid (show P.R = horC x1 P.q x2 P.r (comL P.q x2 P.r) ∧ P.L = comL P.q x2 P.r from ⟨by rw [QS.out.r, QS.out.l], QS.out.l⟩)
  by_cases h120 : P.L ≤ 120
  rotate_left
  · have hbf : b = false := by
      cases hbb : b with
      | false => rfl
      | true => exact absurd (by rw [HRL.out.2]; exact (HB.out.1 hbb).l) h120
    subst hbf
    have h120i : (120 : Int) < (P.L : Int) := by omega
    have h120d : decide ((120 : Int) < (P.L : Int)) = true := decide_eq_true h120i
    have h120n : 120 < P.L := by omega
    have h120e : decide (120 < P.L) = true := decide_eq_true h120n
    go_wp2_with fail
    go_ret
    exact ⟨rfl, BL.out⟩
  have h120i : ¬ (120 : Int) < (P.L : Int) := by omega
  have h120d : decide ((120 : Int) < (P.L : Int)) = false := decide_eq_false h120i
  have h120n : ¬ 120 < P.L := by omega
  have h120e : decide (120 < P.L) = false := decide_eq_false h120n
  by_cases hfe : fr = (P.R : Int)
  rotate_left
  · have hbf : b = false := by
      cases hbb : b with
      | false => rfl
      | true => exact absurd (by rw [HRL.out.1]; exact (HB.out.1 hbb).fr) hfe
    subst hbf
    have t1 : (fr != (P.R : Int)) = true := by simpa using hfe
    go_wp2_with fail
    go_ret
    exact ⟨rfl, BL.out⟩
  subst hfe
  by_cases hme : m = N
  rotate_left
  · have hbf : b = false := by
      cases hbb : b with
      | false => rfl
      | true =>
        exfalso
        have := (HB.out.1 hbb).len
        rw [LN.out, ← HRL.out.1, ← HRL.out.2] at this
        omega
    subst hbf
    have t1 : ((m : Int) != (N : Int)) = true := by simp; omega
    go_wp2_with fail
    go_ret
    exact ⟨rfl, BL.out⟩
  subst hme
  have t9 : ((m : Int) != (m : Int)) = false := by simp
  obtain ⟨d0, d1, d2, g0, g1, g2⟩ := X6.out.1
  obtain ⟨b0, b1, b2, j0, j1, j2⟩ := T6.out.fb
  by_cases hle : ∀ t, ole (eC x2 P.r P.k t) (eC x1 P.q P.j t)
  rotate_left
  · have hbf : b = false := by
      cases hbb : b with
      | false => rfl
      | true => exact absurd (HB.out.1 hbb).le hle
    subst hbf
    have HLE := Lib.hid hle
    clear hle
    go_wp2_with fail
    refine (atMost_says (some x) n5 cap5 x2 P.r P.k I2.out a3 n3 cap3 x1 P.q P.j GY.out false ⟨fun h => Bool.noConfusion h, fun h => absurd h HLE.out⟩ _ X6.out.2 T6.out.r1).mono ?_
    rintro e w7 ⟨rfl, hb⟩
    have BL2 := Lib.hid (BL.out.trans (hb.mono BL.out.size))
    clear hb
    go_wp2_with fail
    go_ret
    exact ⟨rfl, BL2.out⟩
  have HLE := Lib.hid hle
  clear hle
  go_wp2_with fail
  refine (atMost_says (some x) n5 cap5 x2 P.r P.k I2.out a3 n3 cap3 x1 P.q P.j GY.out true ⟨fun _ => HLE.out, fun _ => rfl⟩ _ X6.out.2 T6.out.r1).mono ?_
  rintro e w7 ⟨rfl, hb⟩
  have T7 := Lib.hid (T6.out.call hb)
  have X7 := Lib.hid (And.intro (X6.out.1.below hb) (X6.out.2.under hb))
  have P7 := Lib.hid (P6'.out.below hb)
  have QN7 := Lib.hid (QN.out.under hb)
  have BL7 := Lib.hid (BL.out.trans (hb.mono BL.out.size))
  clear hb c0 c1 c2 f0 f1 f2 c3 c4 f3 f4 d0 d1 d2 g0 g1 g2 b0 b1 b2 j0 j1 j2 e0 e1 e2 i0' i1' i2' e3 e4 e5 i3' i4' i5' T6 X6 P6' QN BL
  obtain ⟨d0, d1, d2, g0, g1, g2⟩ := X7.out.1
  by_cases hsub : SubA (eC x2 P.r P.k)
  rotate_left
  · have hbf : b = false := by
      cases hbb : b with
      | false => rfl
      | true => exact absurd (HB.out.1 hbb).sub hsub
    subst hbf
    have HSU := Lib.hid hsub
    clear hsub
    go_wp2_with fail
    refine (subadd_any (some x) n5 cap5 x2 P.r P.k I2.out false ⟨fun h => Bool.noConfusion h, fun h => absurd h HSU.out⟩ _ X7.out.2).mono ?_
    rintro e w8 ⟨rfl, hb⟩
    have BL2 := Lib.hid (BL7.out.trans (hb.mono BL7.out.size))
    clear hb
    go_wp2_with fail
    go_ret
    exact ⟨rfl, BL2.out⟩
  have HSU := Lib.hid hsub
  clear hsub
  go_wp2_with fail
  refine (subadd_any (some x) n5 cap5 x2 P.r P.k I2.out true ⟨fun _ => HSU.out, fun _ => rfl⟩ _ X7.out.2).mono ?_
  rintro e w8 ⟨rfl, hb⟩
  have T8 := Lib.hid (T7.out.call hb)
  have P8 := Lib.hid (P7.out.below hb)
  have QN8 := Lib.hid (QN7.out.under hb)
  have BL8 := Lib.hid (BL7.out.trans (hb.mono BL7.out.size))
  clear hb d0 d1 d2 g0 g1 g2 T7 X7 P7 QN7 BL7
  obtain ⟨⟨c0, c1, c2, f0, f1, f2⟩, c3, c4, f3, f4⟩ := T8.out.cb
  obtain ⟨⟨e0, e1, e2, i0', i1', i2'⟩, e3, e4, e5, i3', i4', i5'⟩ := P8.out
  go_wp2_with fail
  have HBA := Lib.hid (show b = true ↔ AttOk P x1 x2 ts from by
    unfold AttOk
    rw [HB.out, HRL.out.1]
    constructor
    · intro h; exact ⟨h.z0, h.att⟩
    · rintro ⟨h1, h2⟩
      exact ⟨norm_twice HNN.out K0.out, HZ.out, by rw [← HRL.out.2]; exact h120, by first | rfl | rw [HRL.out.1], by rw [LN.out, ← HRL.out.1, ← HRL.out.2]; omega, HLE.out, HSU.out, h1, h2⟩)
  refine (attained_any P x1 x2 QS.out at1 m mc ts (by omega) (by omega) b HBA.out _ QN8.out T8.out.r3).mono ?_
  rintro e w9 ⟨rfl, hb⟩
  have BL9 := Lib.hid (BL8.out.trans (hb.mono BL8.out.size))
  clear hb
  go_wp2_with fail
  go_ret
  exact ⟨rfl, BL9.out⟩

end Go.Proofs.Ytcpfphlijeajiaa
