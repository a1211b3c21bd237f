/- Of, Prove and Check of the convolution. By the verifier's side. | Check: its tests, and that it accepts what Prove returns. By the verifier's side. | Check of no certificate; the chapter's example; curves that are periodic by 24 ticks in the end. By the verifier's side. -/
import Derived.Test.YtladmpoopfabdaaConAD
import Derived.Test.YtladmpoopfabdaaR5D
import Derived.Test.YtladmpoopfabdaaCurX
import Derived.Test.YtladmpoopfabdaaPwS
namespace Go.Proofs.Ytladmpoopfabdaa
open Go.RowKit
set_option linter.unusedSimpArgs false
set_option linter.unusedVariables false

set_option maxRecDepth 100000 in
set_option maxHeartbeats 3200000 in
theorem cof_ok (a1 : Option Addr) (n1 cap1 : Nat) (z1 : List Int) (p1 : Nat) (i1 : Int) (g1 : Good z1 p1 i1) (a2 : Option Addr) (n2 cap2 : Nat) (z2 : List Int) (p2 : Nat) (i2 : Int) (g2 : Good z2 p2 i2) (L : Nat) (hL : LcmN z1 p1 i1 z2 p2 i2 L) (hL2 : L ≤ 120) (w : World) (h1 : RowZ w a1 n1 cap1 z1) (h2 : RowZ w a2 n2 cap2 z2) :
    Calls Try.prog 22 #[curV a1 n1 cap1 p1 i1, curV a2 n2 cap2 p2 i2] w (GivesE (eConv z1 p1 i1 z2 p2 i2) w) := by
  obtain ⟨y1, q1, j1, y2, q2, j2, hn1, hn2, hLL⟩ := hL
  have k1 := hn1.good g1
  have k2 := hn2.good g2
  have hM := (lcm_of k1.p1 k2.p1 hLL).mult
  have HE := Lib.hid (show eConv y1 q1 j1 y2 q2 j2 = eConv z1 p1 i1 z2 p2 i2 by unfold eConv; rw [funext (hn1.eform g1).2.1, funext (hn2.eform g2).2.1])
  have HG := Lib.hid (And.intro g1 g2)
  have HK := Lib.hid (And.intro k1 k2)
  have HN := Lib.hid (And.intro hn1 hn2)
  have HLL := Lib.hid hLL
  have HM := Lib.hid hM
  obtain ⟨W, hW⟩ : ∃ W, ((w.alloc (.cells #[.slice a1 n1 cap1, .int .i64 p1, .int .i64 i1] 24)).alloc (.cells #[.slice a2 n2 cap2, .int .i64 p2, .int .i64 i2] 24)).alloc (.cells #[.slice none 0 0, .int .i64 0, .int .i64 0] 24) = W := ⟨_, rfl⟩
  obtain ⟨⟨hB, hWs⟩, m1, m2, mr⟩ := boxesB w a1 n1 cap1 p1 i1 a2 n2 cap2 p2 i2 hW
  have HB := Lib.hid hB
  have KR := Lib.hid mr
  have HR := Lib.hid (And.intro (h1.under hB) (h2.under hB))
  have HWS := Lib.hid hWs
  have HW := Lib.hid hW
  obtain ⟨c0, c1, c2, f0, f1, f2⟩ := m1
  obtain ⟨d0, d1, d2, e0, e1, e2⟩ := m2
  clear g1 g2 hn1 hn2 hLL hM k1 k2 h1 h2 hB mr hWs hW
  go_enter Try.func22, Try.ntmps22
  go_wp2_with fail
  try rw [HW.out]
  clear c0 c1 c2 f0 f1 f2 d0 d1 d2 e0 e1 e2
  refine (paired_ok a1 n1 cap1 z1 p1 i1 HG.out.1 a2 n2 cap2 z2 p2 i2 HG.out.2 HN.out.1 HN.out.2 L HLL.out hL2 _ HR.out.1 HR.out.2).mono ?_
  rintro e v1 ⟨la, lb, rfl, hb, hr1, hr2⟩
  obtain ⟨W2, hw⟩ : ∃ W2, v1.alloc (.cells #[.slice (some ⟨la, 0, none⟩) 1160 1160, .int .i64 (y1.length - q1 : Nat), .int .i64 (growI y1 q1 j1 L), .slice (some ⟨lb, 0, none⟩) 1160 1160, .int .i64 (y2.length - q2 : Nat), .int .i64 (growI y2 q2 j2 L), .int .i64 L] 68) = W2 := ⟨_, rfl⟩
  have hz : Below v1.heap.size v1 W2 := by rw [← hw]; exact (Below.refl _ _).alloc (Nat.le_refl _) _
  have hWz : Below W.heap.size W W2 := hb.trans (hz.mono hb.size)
  have KR2 := Lib.hid (KR.out.below hWz)
  have HB2 := Lib.hid (HB.out.trans (hWz.mono HB.out.size))
  have RR := Lib.hid (And.intro (hr1.under hz) (hr2.under hz))
  have HW2 := Lib.hid hw
  clear hb hr1 hr2 hw hz hWz
  go_wp2_with fail
  try rw [HW2.out]
  refine (pconv_ok la lb L y1 q1 j1 y2 q2 j2 HK.out.1 HK.out.2 HM.out hL2 _ RR.out.1 RR.out.2).mono ?_
  rintro e v2 ⟨hb2, ⟨a5, n5, cap5, zs5, p5, inc5, rfl, hr5, hf5, hx5⟩ | ⟨rfl, hno5⟩⟩
  · have HP := Lib.hid (GivesE.post (b := w.heap.size + 2) HB2.out (by omega) KR2.out.lt hb2 hr5 hx5 (HE.out ▸ hf5))
    obtain ⟨d0, d1, d2, e0, e1, e2⟩ := KR2.out.below hb2
    clear hb2 hr5 hf5 hx5
    go_wp2_with fail
    exact bodyPost_ret (v := .tuple #[curV a5 n5 cap5 p5 inc5, .int .i64 0]) (by simp [results, Try.results22, go_sem, d0, d1, d2]) rfl HP.out
  · have HP := Lib.hid (GivesE.postNo (b := w.heap.size + 2) HB2.out (by omega) hb2 (HE.out ▸ hno5))
    obtain ⟨d0, d1, d2, e0, e1, e2⟩ := KR2.out.below hb2
    clear hb2 hno5
    go_wp2_with fail
    exact bodyPost_ret (v := .tuple #[curV none 0 0 0 0, .int .i64 3]) (by simp [results, Try.results22, go_sem, d0, d1, d2]) rfl HP.out

/-- Block b holds a certificate. -/
structure Cert5 (w : World) (b : Nat) (x0 x1 x2 x3 x4 : Value) : Prop where
  lo : Cur3 w b x0 x1 x2
  c3 : w.cell? ⟨b, 3, none⟩ = some x3
  c4 : w.cell? ⟨b, 4, none⟩ = some x4
  f3 : w.frozen? ⟨b, 3, none⟩ = false
  f4 : w.frozen? ⟨b, 4, none⟩ = false
theorem Cert5.below {w w' : World} {b : Nat} {x0 x1 x2 x3 x4 : Value} (h : Cert5 w b x0 x1 x2 x3 x4) (hb : Below w.heap.size w w') : Cert5 w' b x0 x1 x2 x3 x4 :=
  ⟨h.lo.below hb, (hb.cell (p := ⟨b, 3, none⟩) h.lo.lt).trans h.c3, (hb.cell (p := ⟨b, 4, none⟩) h.lo.lt).trans h.c4, (hb.frozen (p := ⟨b, 3, none⟩) h.lo.lt).trans h.f3, (hb.frozen (p := ⟨b, 4, none⟩) h.lo.lt).trans h.f4⟩
theorem cert5_new (w : World) (x0 x1 x2 x3 x4 : Value) (t : TypeId) : Cert5 (w.alloc (.cells #[x0, x1, x2, x3, x4] t)) w.heap.size x0 x1 x2 x3 x4 :=
  ⟨⟨by go_simp, by go_simp, by go_simp, by go_simp, by go_simp, by go_simp⟩, by go_simp, by go_simp, by go_simp, by go_simp⟩

/-- The certificate, as it is handed on. -/
abbrev certV (a : Option Addr) (n cap : Nat) (p inc : Int) (F : Nat) (ab : Nat) (N : Nat) : Value :=
  .agg #[.slice a n cap, .int .i64 p, .int .i64 inc, .int .i64 F, .slice (some ⟨ab, 0, none⟩) N N]
def GivesCert (z1 : List Int) (p1 : Nat) (i1 : Int) (z2 : List Int) (p2 : Nat) (i2 : Int) (L : Nat) (w : World) (e : Ending) (w' : World) : Prop :=
  ∃ (a : Option Addr) (n cap : Nat) (hs : List Int) (r : Nat) (knc : Int) (F ab N : Nat) (A : Nat → Nat) (y1 : List Int) (q1 : Nat) (j1 : Int) (y2 : List Int) (q2 : Nat) (j2 : Int),
    e = .returned (.tuple #[certV a n cap r knc F ab N, .int .i64 0]) ∧ Below w.heap.size w w' ∧ RowZ w' a n cap hs ∧ RowF w' ab N (fun i => ((A i : Nat) : Int)) ∧ EForm hs r knc (eConv z1 p1 i1 z2 p2 i2) ∧ NormC z1 p1 i1 y1 q1 j1 ∧ NormC z2 p2 i2 y2 q2 j2 ∧ (q1 / Nat.gcd q1 q2 * q2 = L) ∧
    F = hori (y1.length - q1) (y2.length - q2) (hs.length - r) L ∧ N = F + L ∧ (∀ t, t < N → AttP y1 q1 j1 y2 q2 j2 hs r knc L (A t) t) ∧ ∀ x, a = some x → w.heap.size ≤ x.block

/-- A tick attains a value: the meaning and what the program tests. -/
theorem attP_iff {y1 : List Int} {q1 : Nat} {j1 : Int} {y2 : List Int} {q2 : Nat} {j2 : Int} {hs : List Int} {r : Nat} {knc : Int} {L s t H : Nat} (hH : hori (y1.length - q1) (y2.length - q2) (hs.length - r) L = H) :
    AttP y1 q1 j1 y2 q2 j2 hs r knc L s t ↔ s ≤ t ∧ AttG (y1.length - q1) (growI y1 q1 j1 L) (y2.length - q2) (growI y2 q2 j2 L) H (growI hs r knc L) (atC y1 q1 j1) (atC y2 q2 j2) (atC hs r knc) s t := by
  subst hH; exact Iff.rfl

theorem least_att {P : Nat → Nat → Prop} {N : Nat} (h : ∀ t, t < N → ∃ s, s ≤ t ∧ P s t) : ∃ A : Nat → Nat, ∀ t, t < N → A t ≤ t ∧ P (A t) t ∧ ∀ s, s < A t → ¬ P s t := by
  classical
  have hl : ∀ t, t < N → ∃ s, (s ≤ t ∧ P s t) ∧ ∀ u, u < s → ¬ P u t := fun t ht => by
    obtain ⟨s, hs, hp⟩ := h t ht
    induction s using Nat.strongRecOn with
    | _ s ih =>
      by_cases hx : ∃ u, u < s ∧ P u t
      · obtain ⟨u, hu, hpu⟩ := hx
        exact ih u hu (by omega) hpu
      · exact ⟨s, ⟨hs, hp⟩, fun u hu hpu => hx ⟨u, hu, hpu⟩⟩
  exact ⟨fun t => if ht : t < N then Classical.choose (hl t ht) else 0, fun t ht => by
    simp only [dif_pos ht]
    have := Classical.choose_spec (hl t ht)
    exact ⟨this.1.1, this.1.2, this.2⟩⟩

set_option maxRecDepth 100000 in
set_option maxHeartbeats 6400000 in
theorem prove_ok (a1 : Option Addr) (n1 cap1 : Nat) (z1 : List Int) (p1 : Nat) (i1 : Int) (g1 : Good z1 p1 i1) (a2 : Option Addr) (n2 cap2 : Nat) (z2 : List Int) (p2 : Nat) (i2 : Int) (g2 : Good z2 p2 i2) (L : Nat) (hL : LcmN z1 p1 i1 z2 p2 i2 L) (hL2 : L ≤ 120) (w : World) (h1 : RowZ w a1 n1 cap1 z1) (h2 : RowZ w a2 n2 cap2 z2) :
    Calls Try.prog 24 #[curV a1 n1 cap1 p1 i1, curV a2 n2 cap2 p2 i2] w fun e w' => GivesCert z1 p1 i1 z2 p2 i2 L w e w' ∨ (e = .returned (.tuple #[.agg #[.slice none 0 0, .int .i64 0, .int .i64 0, .int .i64 0, .slice none 0 0], .int .i64 3]) ∧ Below w.heap.size w w' ∧ ¬ ECan (eConv z1 p1 i1 z2 p2 i2)) := by
  obtain ⟨y1, q1, j1, y2, q2, j2, hn1, hn2, hLL⟩ := hL
  have k1 := hn1.good g1
  have k2 := hn2.good g2
  have hM := (lcm_of k1.p1 k2.p1 hLL).mult
  have HE := Lib.hid (show eConv y1 q1 j1 y2 q2 j2 = eConv z1 p1 i1 z2 p2 i2 by unfold eConv; rw [funext (hn1.eform g1).2.1, funext (hn2.eform g2).2.1])
  have HG := Lib.hid (And.intro g1 g2)
  have HK := Lib.hid (And.intro k1 k2)
  have HN := Lib.hid (And.intro hn1 hn2)
  have HLL := Lib.hid hLL
  have HM := Lib.hid hM
  obtain ⟨W, hW⟩ : ∃ W, ((w.alloc (.cells #[.slice a1 n1 cap1, .int .i64 p1, .int .i64 i1] 24)).alloc (.cells #[.slice a2 n2 cap2, .int .i64 p2, .int .i64 i2] 24)).alloc (.cells #[.slice none 0 0, .int .i64 0, .int .i64 0, .int .i64 0, .slice none 0 0] 40) = W := ⟨_, rfl⟩
  have hB : Below w.heap.size w W := by rw [← hW]; exact (((Below.refl _ _).alloc (Nat.le_refl _) _).alloc (by simp) _).alloc (by simp; omega) _
  have hWs : W.heap.size = w.heap.size + 3 := by rw [← hW]; simp
  have m1 : Cur3 W w.heap.size (.slice a1 n1 cap1) (.int .i64 p1) (.int .i64 i1) := by rw [← hW]; exact ((Cur3.new w _ _ _ _).alloc _).alloc _
  have m2 : Cur3 W (w.heap.size + 1) (.slice a2 n2 cap2) (.int .i64 p2) (.int .i64 i2) := by rw [← hW]; exact (Cur3.new2 w _ _ _ _ _).alloc _
  have mr : Cert5 W (w.heap.size + 2) (.slice none 0 0) (.int .i64 0) (.int .i64 0) (.int .i64 0) (.slice none 0 0) := by
    rw [← hW]
    have := cert5_new ((w.alloc (.cells #[.slice a1 n1 cap1, .int .i64 p1, .int .i64 i1] 24)).alloc (.cells #[.slice a2 n2 cap2, .int .i64 p2, .int .i64 i2] 24)) (.slice none 0 0) (.int .i64 0) (.int .i64 0) (.int .i64 0) (.slice none 0 0) 40
    simpa using this
  have HB := Lib.hid hB
  have KR := Lib.hid mr
  have HR := Lib.hid (And.intro (h1.under hB) (h2.under hB))
  have HWS := Lib.hid hWs
  have HW := Lib.hid hW
  obtain ⟨c0, c1, c2, f0, f1, f2⟩ := m1
  obtain ⟨d0, d1, d2, e0, e1, e2⟩ := m2
  clear g1 g2 hn1 hn2 hLL hM k1 k2 h1 h2 hB mr hWs hW
  go_enter Try.func24, Try.ntmps24
  go_wp2_with fail
  try rw [HW.out]
  clear c0 c1 c2 f0 f1 f2 d0 d1 d2 e0 e1 e2
  refine (paired_ok a1 n1 cap1 z1 p1 i1 HG.out.1 a2 n2 cap2 z2 p2 i2 HG.out.2 HN.out.1 HN.out.2 L HLL.out hL2 _ HR.out.1 HR.out.2).mono ?_
  rintro e v1 ⟨la, lb, rfl, hb, hr1, hr2⟩
  obtain ⟨W2, hw⟩ : ∃ W2, v1.alloc (.cells #[.slice (some ⟨la, 0, none⟩) 1160 1160, .int .i64 (y1.length - q1 : Nat), .int .i64 (growI y1 q1 j1 L), .slice (some ⟨lb, 0, none⟩) 1160 1160, .int .i64 (y2.length - q2 : Nat), .int .i64 (growI y2 q2 j2 L), .int .i64 L] 68) = W2 := ⟨_, rfl⟩
  have hz : Below v1.heap.size v1 W2 := by rw [← hw]; exact (Below.refl _ _).alloc (Nat.le_refl _) _
  have hWz : Below W.heap.size W W2 := hb.trans (hz.mono hb.size)
  have PB := Lib.hid (show PrB W2 v1.heap.size la (y1.length - q1) (growI y1 q1 j1 L) lb (y2.length - q2) (growI y2 q2 j2 L) L by rw [← hw]; exact pr7_new v1 _ _ _ _ _ _ _ _)
  have KR2 := Lib.hid (KR.out.below hWz)
  have HB2 := Lib.hid (HB.out.trans (hWz.mono HB.out.size))
  have RR := Lib.hid (And.intro (hr1.under hz) (hr2.under hz))
  have HW2 := Lib.hid hw
  have SZ1 := Lib.hid (show w.heap.size + 3 ≤ v1.heap.size by have := hb.size; have := HWS.out; omega)
  clear hb hr1 hr2 hw hz hWz
  go_wp2_with fail
  try rw [HW2.out]
  refine (pconv_ok la lb L y1 q1 j1 y2 q2 j2 HK.out.1 HK.out.2 HM.out hL2 _ RR.out.1 RR.out.2).mono ?_
  rintro e v2 ⟨hb2, ⟨a5, n5, cap5, zs5, p5, inc5, rfl, hr5, hf5, hx5⟩ | ⟨rfl, hno5⟩⟩
  · obtain ⟨W3, hw3⟩ : ∃ W3, v2.alloc (.cells #[.slice a5 n5 cap5, .int .i64 p5, .int .i64 inc5] 24) = W3 := ⟨_, rfl⟩
    have hz3 : Below v2.heap.size v2 W3 := by rw [← hw3]; exact (Below.refl _ _).alloc (Nat.le_refl _) _
    have hb3 : Below W2.heap.size W2 W3 := hb2.trans (hz3.mono hb2.size)
    have PB3 := Lib.hid (PB.out.below hb3)
    have KR3 := Lib.hid (KR2.out.below hb3)
    have HB3 := Lib.hid (HB2.out.trans (hb3.mono HB2.out.size))
    have RR3 := Lib.hid (And.intro (RR.out.1.under hb3) (RR.out.2.under hb3))
    have X3 := Lib.hid (show Bx W3 v2.heap.size a5 n5 cap5 p5 inc5 zs5 by rw [← hw3]; exact Bx.new hr5)
    have HW3 := Lib.hid hw3
    have HF := Lib.hid hf5
    have HX := Lib.hid (show ∀ x, a5 = some x → w.heap.size + 3 ≤ x.block from fun x hx => by have := hx5 x hx; have := SZ1.out; have := PB.out.lt; omega)
    obtain ⟨s5, hs5, hns5⟩ := norm_self hf5
    have HS5 := Lib.hid (And.intro (show zs5.length = (zs5.length - p5) + p5 by omega) hns5)
    have gp5 := hf5.1.p1
    have SZ2 := Lib.hid (show v1.heap.size < v2.heap.size by have := hb2.size; have := PB.out.lt; omega)
    clear hb2 hr5 hf5 hx5 hw3 hz3 hb3 hs5 hns5
    obtain ⟨⟨c0, c1, c2, f0, f1, f2⟩, c3, c4, c5, c6, f3, f4, f5, f6⟩ := PB3.out
    obtain ⟨d0, d1, d2, e0, e1, e2⟩ := X3.out.box
    go_upto_region 7 with fail
    try rw [HW3.out]
    go_wp2_with fail
    clear c0 c1 c2 f0 f1 f2 c3 c4 c5 c6 f3 f4 f5 f6 d0 d1 d2 e0 e1 e2
    refine (described_ok a5 n5 cap5 zs5 p5 inc5 HF.out.1 HS5.out.2 (zs5.length - p5) HS5.out.1 L hL2 (growI zs5 p5 inc5 L) rfl _ X3.out.row).mono ?_
    rintro e v3 ⟨lh, rfl, hb4, hlh, hr4⟩
    obtain ⟨W4, hw4⟩ : ∃ W4, v3.alloc (.cells #[.slice (some ⟨lh, 0, none⟩) 1160 1160, .int .i64 (zs5.length - p5 : Nat), .int .i64 (growI zs5 p5 inc5 L)] 66) = W4 := ⟨_, rfl⟩
    have hz4 : Below v3.heap.size v3 W4 := by rw [← hw4]; exact (Below.refl _ _).alloc (Nat.le_refl _) _
    have hb5 : Below W3.heap.size W3 W4 := hb4.trans (hz4.mono hb4.size)
    have PB4 := Lib.hid (PB3.out.below hb5)
    have KR4 := Lib.hid (KR3.out.below hb5)
    have HB4 := Lib.hid (HB3.out.trans (hb5.mono HB3.out.size))
    have RR4 := Lib.hid (And.intro (RR3.out.1.under hb5) (And.intro (RR3.out.2.under hb5) (hr4.under hz4)))
    have X4 := Lib.hid (X3.out.under hb5)
    have HC4 := Lib.hid (show Cur3 W4 v3.heap.size (.slice (some ⟨lh, 0, none⟩) 1160 1160) (.int .i64 (zs5.length - p5 : Nat)) (.int .i64 (growI zs5 p5 inc5 L)) by rw [← hw4]; exact Cur3.new v3 _ _ _ _)
    have HW4 := Lib.hid hw4
    clear hb4 hlh hr4 hw4 hz4 hb5
    obtain ⟨⟨c0, c1, c2, f0, f1, f2⟩, c3, c4, c5, c6, f3, f4, f5, f6⟩ := PB4.out
    obtain ⟨d0, d1, d2, e0, e1, e2⟩ := HC4.out
    have b1 : y1.length - q1 ≤ 400 := by have := HK.out.1.few; omega
    have b2 : y2.length - q2 ≤ 400 := by have := HK.out.2.few; omega
    have b3 : zs5.length - p5 ≤ 400 := by have := HF.out.1.few; omega
    obtain ⟨H, hH⟩ : ∃ H, hori (y1.length - q1) (y2.length - q2) (zs5.length - p5) L = H := ⟨_, rfl⟩
    have HHH := Lib.hid hH
    have hHb : H + L ≤ 1160 := by
      have := HK.out.1.few; have := HK.out.1.p1; have := HK.out.1.p3; have := HK.out.2.few; have := HK.out.2.p1; have := HK.out.2.p3; unfold hori at hH; omega
    clear hH
    go_upto_region 8 with fail
    try rw [HW4.out]
    go_wp2_with fail
    clear c0 c1 c2 f0 f1 f2 c3 c4 c5 c6 f3 f4 f5 f6 d0 d1 d2 e0 e1 e2
    refine (horizon_any la (y1.length - q1) (growI y1 q1 j1 L) lb (y2.length - q2) (growI y2 q2 j2 L) L lh (zs5.length - p5) (growI zs5 p5 inc5 L) (by omega) (by omega) (by omega) (by omega) H HHH.out _).mono ?_
    rintro e v4 ⟨rfl, hb6⟩
    have PB5 := Lib.hid (PB4.out.below hb6)
    have KR5 := Lib.hid (KR4.out.below hb6)
    have HB5 := Lib.hid (HB4.out.trans (hb6.mono HB4.out.size))
    have RR5 := Lib.hid (And.intro (RR4.out.1.under hb6) (And.intro (RR4.out.2.1.under hb6) (RR4.out.2.2.under hb6)))
    have X5 := Lib.hid (X4.out.under hb6)
    have HC5 := Lib.hid (HC4.out.below hb6)
    clear hb6
    obtain ⟨N, hN⟩ : ∃ N, H + L = N := ⟨_, rfl⟩
    have HNN := Lib.hid hN
    have hNi : (H : Int) + (L : Int) = (N : Int) := by omega
    have hNw : IntKind.i64.wrap (N : Int) = (N : Int) := IntWalk.i64_in _ ⟨by omega, by omega⟩
    obtain ⟨A, hA⟩ := least_att (P := AttG (y1.length - q1) (growI y1 q1 j1 L) (y2.length - q2) (growI y2 q2 j2 L) H (growI zs5 p5 inc5 L) (atC y1 q1 j1) (atC y2 q2 j2) (atC zs5 p5 inc5)) (N := N) (fun t ht => by
      obtain ⟨s, hs⟩ := att_ex HK.out.1 HK.out.2 HF.out HM.out hL2 (t := t) (by omega)
      exact ⟨s, (attP_iff HHH.out).1 hs⟩)
    have HA := Lib.hid hA
    have HHM := Lib.hid (show max (y1.length - q1 + (y2.length - q2)) (zs5.length - p5) + L = H from HHH.out)
    have LSZ := Lib.hid (show w.heap.size + 3 ≤ v4.heap.size by have := PB5.out.lt; have := SZ1.out; omega)
    have KS := Lib.hid (show ∀ u, Below v4.heap.size v4 u → (fun u => u.cell? ⟨v2.heap.size, 0, none⟩ = some (.slice a5 n5 cap5) ∧ u.cell? ⟨v2.heap.size, 1, none⟩ = some (.int .i64 p5) ∧ u.cell? ⟨v2.heap.size, 2, none⟩ = some (.int .i64 inc5) ∧ u.cell? ⟨v1.heap.size, 0, none⟩ = some (.slice (some ⟨la, 0, none⟩) 1160 1160) ∧ u.cell? ⟨v1.heap.size, 1, none⟩ = some (.int .i64 (y1.length - q1 : Nat)) ∧ u.cell? ⟨v1.heap.size, 2, none⟩ = some (.int .i64 (growI y1 q1 j1 L)) ∧ u.cell? ⟨v1.heap.size, 3, none⟩ = some (.slice (some ⟨lb, 0, none⟩) 1160 1160) ∧ u.cell? ⟨v1.heap.size, 4, none⟩ = some (.int .i64 (y2.length - q2 : Nat)) ∧ u.cell? ⟨v1.heap.size, 5, none⟩ = some (.int .i64 (growI y2 q2 j2 L)) ∧ u.cell? ⟨v1.heap.size, 6, none⟩ = some (.int .i64 L) ∧ u.cell? ⟨v3.heap.size, 0, none⟩ = some (.slice (some ⟨lh, 0, none⟩) 1160 1160) ∧ u.cell? ⟨v3.heap.size, 1, none⟩ = some (.int .i64 (zs5.length - p5 : Nat)) ∧ u.cell? ⟨v3.heap.size, 2, none⟩ = some (.int .i64 (growI zs5 p5 inc5 L)) ∧ Hid (Below v4.heap.size v4 u)) u from fun u hu => by
      have x := X5.out.under hu
      have p := PB5.out.below hu
      have h := HC5.out.below hu
      exact ⟨x.box.c0, x.box.c1, x.box.c2, p.lo.c0, p.lo.c1, p.lo.c2, p.c3, p.c4, p.c5, p.c6, h.c0, h.c1, h.c2, hu⟩)
    clear hN hA
    go_upto_region 9 with fail
    refine wp_region_keeps (fun u => u.cell? ⟨v2.heap.size, 0, none⟩ = some (.slice a5 n5 cap5) ∧ u.cell? ⟨v2.heap.size, 1, none⟩ = some (.int .i64 p5) ∧ u.cell? ⟨v2.heap.size, 2, none⟩ = some (.int .i64 inc5) ∧ u.cell? ⟨v1.heap.size, 0, none⟩ = some (.slice (some ⟨la, 0, none⟩) 1160 1160) ∧ u.cell? ⟨v1.heap.size, 1, none⟩ = some (.int .i64 (y1.length - q1 : Nat)) ∧ u.cell? ⟨v1.heap.size, 2, none⟩ = some (.int .i64 (growI y1 q1 j1 L)) ∧ u.cell? ⟨v1.heap.size, 3, none⟩ = some (.slice (some ⟨lb, 0, none⟩) 1160 1160) ∧ u.cell? ⟨v1.heap.size, 4, none⟩ = some (.int .i64 (y2.length - q2 : Nat)) ∧ u.cell? ⟨v1.heap.size, 5, none⟩ = some (.int .i64 (growI y2 q2 j2 L)) ∧ u.cell? ⟨v1.heap.size, 6, none⟩ = some (.int .i64 L) ∧ u.cell? ⟨v3.heap.size, 0, none⟩ = some (.slice (some ⟨lh, 0, none⟩) 1160 1160) ∧ u.cell? ⟨v3.heap.size, 1, none⟩ = some (.int .i64 (zs5.length - p5 : Nat)) ∧ u.cell? ⟨v3.heap.size, 2, none⟩ = some (.int .i64 (growI zs5 p5 inc5 L)) ∧ Hid (Below v4.heap.size v4 u)) 10 2 (by kernel_rfl) (by kernel_rfl) (KS.out _ (Below.refl _ _).drew) (fun hHeld0 => ?_)
    refine wpAnyK_take (i := 0) (v := ?_) rfl (by kernel_rfl) (fun _ _ _ h => h) (Or.inl ⟨by rfl, ?_⟩) (by assumption) ?_
    rotate_left
    · (intro w hSw; (try dsimp only at hSw); go_simp; try with_reducible rfl)
    try simp only [Act.put, List.getElem_toArray, List.getElem_cons_zero, List.getElem_cons_succ, List.setIfInBounds_toArray, List.set_cons_zero, List.set_cons_succ]
    refine wpAnyK_take (i := 1) (v := ?_) rfl (by kernel_rfl) (fun _ _ _ h => h) (Or.inl ⟨by rfl, ?_⟩) (by assumption) ?_
    rotate_left
    · (intro w hSw; (try dsimp only at hSw); go_simp; try with_reducible rfl)
    try simp only [Act.put, List.getElem_toArray, List.getElem_cons_zero, List.getElem_cons_succ, List.setIfInBounds_toArray, List.set_cons_zero, List.set_cons_succ]
    refine wpAnyK_take (i := 2) (v := ?_) rfl (by kernel_rfl) (fun _ _ _ h => h) (Or.inl ⟨by rfl, ?_⟩) (by assumption) ?_
    rotate_left
    · (intro w hSw; (try dsimp only at hSw); go_simp; try with_reducible rfl)
    try simp only [Act.put, List.getElem_toArray, List.getElem_cons_zero, List.getElem_cons_succ, List.setIfInBounds_toArray, List.set_cons_zero, List.set_cons_succ]
    refine wpAnyK_take (i := 3) (v := ?_) rfl (by kernel_rfl) (fun _ _ _ h => h) (Or.inl ⟨by rfl, ?_⟩) (by assumption) ?_
    rotate_left
    · (intro w hSw; (try dsimp only at hSw); go_simp; try with_reducible rfl)
    try simp only [Act.put, List.getElem_toArray, List.getElem_cons_zero, List.getElem_cons_succ, List.setIfInBounds_toArray, List.set_cons_zero, List.set_cons_succ]
    refine wpAnyK_take (i := 4) (v := ?_) rfl (by kernel_rfl) (fun _ _ _ h => h) (Or.inl ⟨by rfl, ?_⟩) (by assumption) ?_
    rotate_left
    · (intro w hSw; (try dsimp only at hSw); go_simp; try with_reducible rfl)
    try simp only [Act.put, List.getElem_toArray, List.getElem_cons_zero, List.getElem_cons_succ, List.setIfInBounds_toArray, List.set_cons_zero, List.set_cons_succ]
    refine wpAnyK_take (i := 5) (v := ?_) rfl (by kernel_rfl) (fun _ _ _ h => h) (Or.inl ⟨by rfl, ?_⟩) (by assumption) ?_
    rotate_left
    · (intro w hSw; (try dsimp only at hSw); go_simp; try with_reducible rfl)
    try simp only [Act.put, List.getElem_toArray, List.getElem_cons_zero, List.getElem_cons_succ, List.setIfInBounds_toArray, List.set_cons_zero, List.set_cons_succ]
    refine wpAnyK_take (i := 6) (v := ?_) rfl (by kernel_rfl) (fun _ _ _ h => h) (Or.inl ⟨by rfl, ?_⟩) (by assumption) ?_
    rotate_left
    · (intro w hSw; (try dsimp only at hSw); go_simp; try with_reducible rfl)
    try simp only [Act.put, List.getElem_toArray, List.getElem_cons_zero, List.getElem_cons_succ, List.setIfInBounds_toArray, List.set_cons_zero, List.set_cons_succ]
    refine wpAnyK_take (i := 7) (v := ?_) rfl (by kernel_rfl) (fun _ _ _ h => h) (Or.inl ⟨by rfl, ?_⟩) (by assumption) ?_
    rotate_left
    · (intro w hSw; (try dsimp only at hSw); go_simp; try with_reducible rfl)
    try simp only [Act.put, List.getElem_toArray, List.getElem_cons_zero, List.getElem_cons_succ, List.setIfInBounds_toArray, List.set_cons_zero, List.set_cons_succ]
    refine wpAnyK_step (i := 8) rfl (by kernel_rfl) (fun K hK => ?_)
    go_simp
    with_reducible refine (splits_ok la (y1.length - q1) (growI y1 q1 j1 L) lb (y2.length - q2) (growI y2 q2 j2 L) L lh (zs5.length - p5) (growI zs5 p5 inc5 L) (atC y1 q1 j1) (atC y2 q2 j2) (atC zs5 p5 inc5) N (by omega) (by omega) (by omega) (by omega) (by omega) (fun t ht => at_mid2 HK.out.1 (by omega)) (fun t ht => at_mid2 HK.out.2 (by omega)) H HHM.out A HA.out _ (RR5.out.1.under (Below.refl _ _).drew) (RR5.out.2.1.under (Below.refl _ _).drew) (RR5.out.2.2.under (Below.refl _ _).drew)).mono ?_
    rintro e v5 ⟨ab, rfl, hb7, hab, hrab⟩
    have HAB := Lib.hid (show Below v4.heap.size v4 v5 ∧ v4.heap.size ≤ ab ∧ RowF v5 ab N (fun i => ((A i : Nat) : Int)) from ⟨(Below.refl v4.heap.size v4).drew.trans hb7, hab, hrab⟩)
    clear hb7 hab hrab
    refine hK.out _ _ (KS.out _ HAB.out.1) (fun hHeld1 => ?_)
    clear hK K hHeld0
    try simp only [Act.put, List.getElem_toArray, List.getElem_cons_zero, List.getElem_cons_succ, List.setIfInBounds_toArray, List.set_cons_zero, List.set_cons_succ]
    refine wpAnyK_take (i := 9) (v := ?_) rfl (by kernel_rfl) (fun _ _ _ h => h) (Or.inl ⟨by rfl, ?_⟩) (by assumption) ?_
    rotate_left
    · (intro w hSw; (try dsimp only at hSw); go_simp; try with_reducible rfl)
    try simp only [Act.put, List.getElem_toArray, List.getElem_cons_zero, List.getElem_cons_succ, List.setIfInBounds_toArray, List.set_cons_zero, List.set_cons_succ]
    refine wpAnyK_done (by kernel_rfl) ?_
    simp only [List.drop_succ_cons, List.drop_zero]
    have HP := Lib.hid (show GivesCert z1 p1 i1 z2 p2 i2 L w (.returned (.tuple #[certV a5 n5 cap5 p5 inc5 H ab N, .int .i64 0])) (((((v5.setCell ⟨w.heap.size + 2, 0, none⟩ (.slice a5 n5 cap5)).setCell ⟨w.heap.size + 2, 1, none⟩ (.int .i64 p5)).setCell ⟨w.heap.size + 2, 2, none⟩ (.int .i64 inc5)).setCell ⟨w.heap.size + 2, 3, none⟩ (.int .i64 H)).setCell ⟨w.heap.size + 2, 4, none⟩ (.slice (some ⟨ab, 0, none⟩) N N)) by
      have hl := LSZ.out
      have hab' := HAB.out.2.1
      have ha : ∀ x, a5 = some x → 1 ≤ n5 → x.block ≠ w.heap.size + 2 := fun x hx _ => by have := HX.out x hx; omega
      refine ⟨a5, n5, cap5, zs5, p5, inc5, H, ab, N, A, y1, q1, j1, y2, q2, j2, rfl, ?_, ?_, ?_, HE.out ▸ HF.out, HN.out.1, HN.out.2, HLL.out, HHH.out.symm, HNN.out.symm, fun t ht => (attP_iff HHH.out).2 ⟨(HA.out t ht).1, (HA.out t ht).2.1⟩, fun x hx => by have := HX.out x hx; omega⟩
      · exact (((below_set3 (HB5.out.trans (HAB.out.1.mono HB5.out.size)) (by omega) _ _ _).setCell (p := ⟨w.heap.size + 2, 3, none⟩) (by show w.heap.size ≤ w.heap.size + 2; omega) _).setCell (p := ⟨w.heap.size + 2, 4, none⟩) (by show w.heap.size ≤ w.heap.size + 2; omega) _)
      · exact (((((X5.out.row.under HAB.out.1).store ha _ _).store ha _ _).store ha _ _).store ha _ _).store ha _ _
      · exact ((((HAB.out.2.2.other (by omega) _ _).other (by omega) _ _).other (by omega) _ _).other (by omega) _ _).other (by omega) _ _)
    obtain ⟨⟨c0, c1, c2, f0, f1, f2⟩, c3, c4, f3, f4⟩ := KR5.out.below HAB.out.1
    clear hHeld1
    go_wp2_with fail
    exact bodyPost_ret (v := .tuple #[certV a5 n5 cap5 p5 inc5 H ab N, .int .i64 0]) (by simp [results, Try.results24, go_sem, c0, c1, c2, c3, c4]) rfl (.inl HP.out)
  · have HNE := Lib.hid (show ¬ ECan (eConv z1 p1 i1 z2 p2 i2) from HE.out ▸ hno5)
    obtain ⟨W3, hw3⟩ : ∃ W3, v2.alloc (.cells #[.slice none 0 0, .int .i64 0, .int .i64 0] 24) = W3 := ⟨_, rfl⟩
    have hz3 : Below v2.heap.size v2 W3 := by rw [← hw3]; exact (Below.refl _ _).alloc (Nat.le_refl _) _
    have hb3 : Below W2.heap.size W2 W3 := hb2.trans (hz3.mono hb2.size)
    have KR3 := Lib.hid (KR2.out.below hb3)
    have HB3 := Lib.hid (HB2.out.trans (hb3.mono HB2.out.size))
    have HW3 := Lib.hid hw3
    clear hb2 hno5 hw3 hz3 hb3
    go_upto_region 6 with fail
    try rw [HW3.out]
    have HP := Lib.hid (show Below w.heap.size w (((((W3.setCell ⟨w.heap.size + 2, 0, none⟩ (.slice none 0 0)).setCell ⟨w.heap.size + 2, 1, none⟩ (.int .i64 0)).setCell ⟨w.heap.size + 2, 2, none⟩ (.int .i64 0)).setCell ⟨w.heap.size + 2, 3, none⟩ (.int .i64 0)).setCell ⟨w.heap.size + 2, 4, none⟩ (.slice none 0 0)) from (((below_set3 HB3.out (by omega) _ _ _).setCell (p := ⟨w.heap.size + 2, 3, none⟩) (by show w.heap.size ≤ w.heap.size + 2; omega) _).setCell (p := ⟨w.heap.size + 2, 4, none⟩) (by show w.heap.size ≤ w.heap.size + 2; omega) _))
    obtain ⟨⟨c0, c1, c2, f0, f1, f2⟩, c3, c4, f3, f4⟩ := KR3.out
    go_wp2_with fail
    exact bodyPost_ret (v := .tuple #[.agg #[.slice none 0 0, .int .i64 0, .int .i64 0, .int .i64 0, .slice none 0 0], .int .i64 3]) (by simp [results, Try.results24, go_sem, c0, c1, c2, c3, c4]) rfl (.inr ⟨rfl, HP.out, HNE.out⟩)


end Go.Proofs.Ytladmpoopfabdaa

namespace Go.Proofs.Ytladmpoopfabdaa
open Go.RowKit
set_option linter.unusedSimpArgs false
set_option linter.unusedVariables false

theorem below_drew1 {w v : World} (h : Below w.drew.heap.size w.drew v) : Below w.heap.size w v := (Below.refl w.heap.size w).drew.trans h

set_option maxHeartbeats 1600000 in
theorem check1 (cb rb : Nat) (a : Option Addr) (n cap : Nat) (r : Nat) (knc : Int) (F ab N : Nat) (a5 : Option Addr) (n5 cap5 : Nat) (hs : List Int) (w : World) (hc : Cert5 w cb (.slice a n cap) (.int .i64 r) (.int .i64 knc) (.int .i64 F) (.slice (some ⟨ab, 0, none⟩) N N)) (hr : Cur3 w rb (.slice a5 n5 cap5) (.int .i64 r) (.int .i64 knc)) (r1 : RowZ w a n cap hs) (r2 : RowZ w a5 n5 cap5 hs) :
    Calls Try.prog 69 #[.pointer (some ⟨cb, 0, none⟩), .pointer (some ⟨rb, 0, none⟩)] w (Says (.bool true) w) := by
  obtain ⟨⟨c0, c1, c2, f0, f1, f2⟩, c3, c4, f3, f4⟩ := hc
  obtain ⟨d0, d1, d2, g0, g1, g2⟩ := hr
  have HR := Lib.hid (And.intro r1 r2)
  have HS := Lib.hid (show sameB hs r knc hs r knc = true from sameB_iff.2 ⟨rfl, rfl, rfl⟩)
  clear r1 r2
  go_enter Try.func69, Try.ntmps69
  go_wp2_with fail
  refine (same_any a n cap hs r knc a5 n5 cap5 hs r knc true HS.out _ HR.out.1 HR.out.2).mono ?_
  rintro e w1 ⟨rfl, hb⟩
  have HB := Lib.hid hb
  clear hb
  go_wp2_with fail
  go_ret
  exact ⟨rfl, HB.out⟩

set_option maxRecDepth 100000 in
set_option maxHeartbeats 1600000 in
theorem check2 (pb rb hb : Nat) (la S1 : Nat) (G1 : Int) (lb S2 : Nat) (G2 : Int) (L : Nat) (lh Sh : Nat) (Gh : Int) (F1 F2 : Nat → Int) (a5 : Option Addr) (n5 cap5 : Nat) (r : Nat) (knc : Int) (hr1 : 1 ≤ r) (hr2 : r ≤ 120) (hL : L ≤ 120) (hd : L % r = 0) (hm1 : Mid (F1 0)) (hm2 : Mid (F2 0)) (hg : (if plI (F1 0) (F2 0) = infV then infV else min G1 G2) = Gh)
    (w : World) (hp : PrB w pb la S1 G1 lb S2 G2 L) (hr : Cur3 w rb (.slice a5 n5 cap5) (.int .i64 r) (.int .i64 knc)) (hh : Cur3 w hb (.slice (some ⟨lh, 0, none⟩) 1160 1160) (.int .i64 Sh) (.int .i64 Gh)) (r1 : RowF w la 1160 F1) (r2 : RowF w lb 1160 F2) :
    Calls Try.prog 71 #[.pointer (some ⟨pb, 0, none⟩), .pointer (some ⟨rb, 0, none⟩), .pointer (some ⟨hb, 0, none⟩)] w (Says (.bool true) w) := by
  have HP := Lib.hid hp
  have HH := Lib.hid hh
  have HR := Lib.hid (And.intro r1 r2)
  have HX := Lib.hid (And.intro (And.intro hm1 hm2) hg)
  have HC := Lib.hid hr
  have e1 : (L : Int).tmod (r : Int) = 0 := by rw [Int.tmod_eq_emod_of_nonneg (by omega)]; omega
  have e2 : ¬ (r : Int) = 0 := by omega
  have e3 : ¬ r = 0 := by omega
  have e4 : (L : Int) % (r : Int) = 0 := by omega
  have KS := Lib.hid (show ∀ u, Below w.heap.size w u → ((fun u => u.cell? ⟨pb, 0, none⟩ = some (.slice (some ⟨la, 0, none⟩) 1160 1160) ∧ u.cell? ⟨pb, 1, none⟩ = some (.int .i64 S1) ∧ u.cell? ⟨pb, 2, none⟩ = some (.int .i64 G1) ∧ u.cell? ⟨pb, 3, none⟩ = some (.slice (some ⟨lb, 0, none⟩) 1160 1160) ∧ u.cell? ⟨pb, 4, none⟩ = some (.int .i64 S2) ∧ u.cell? ⟨pb, 5, none⟩ = some (.int .i64 G2) ∧ u.cell? ⟨pb, 6, none⟩ = some (.int .i64 L) ∧ u.cell? ⟨rb, 1, none⟩ = some (.int .i64 r) ∧ u.cell? ⟨hb, 2, none⟩ = some (.int .i64 Gh) ∧ Hid (Below w.heap.size w u)) u) from fun u hu => by
    have p := HP.out.below hu
    exact ⟨p.lo.c0, p.lo.c1, p.lo.c2, p.c3, p.c4, p.c5, p.c6, (HC.out.below hu).c1, (HH.out.below hu).c2, hu⟩)
  clear hp hh r1 r2 hm1 hm2 hg hr
  go_enter Try.func71, Try.ntmps71
  go_wp2_with fail
  go_region_held3 (fun u => u.cell? ⟨pb, 0, none⟩ = some (.slice (some ⟨la, 0, none⟩) 1160 1160) ∧ u.cell? ⟨pb, 1, none⟩ = some (.int .i64 S1) ∧ u.cell? ⟨pb, 2, none⟩ = some (.int .i64 G1) ∧ u.cell? ⟨pb, 3, none⟩ = some (.slice (some ⟨lb, 0, none⟩) 1160 1160) ∧ u.cell? ⟨pb, 4, none⟩ = some (.int .i64 S2) ∧ u.cell? ⟨pb, 5, none⟩ = some (.int .i64 G2) ∧ u.cell? ⟨pb, 6, none⟩ = some (.int .i64 L) ∧ u.cell? ⟨rb, 1, none⟩ = some (.int .i64 r) ∧ u.cell? ⟨hb, 2, none⟩ = some (.int .i64 Gh) ∧ Hid (Below w.heap.size w u))
    (first | with_reducible exact KS.out _ (Below.refl _ _).drew | with_reducible exact KS.out _ (below_drew1 hbx))
    (first | (go_at_call 72; ((with_reducible refine (cgrow_any la S1 G1 lb S2 G2 L F1 F2 HX.out.1.1 HX.out.1.2 Gh HX.out.2 _ (HR.out.1.under (Below.refl _ _).drew) (HR.out.2.under (Below.refl _ _).drew)).mono ?_); rintro e w1 ⟨rfl, hbx⟩)))
  all_goals go_wp2_with fail
  all_goals go_ret
  all_goals exact ⟨rfl, below_drew1 hbx⟩

set_option maxRecDepth 100000 in
set_option maxHeartbeats 1600000 in
theorem check3 (cb pb hb : Nat) (la S1 : Nat) (G1 : Int) (lb S2 : Nat) (G2 : Int) (L : Nat) (lh Sh : Nat) (Gh : Int) (a : Option Addr) (n cap : Nat) (r : Nat) (knc : Int) (F ab N : Nat) (h1 : S1 ≤ 1000) (h2 : S2 ≤ 1000) (h3 : Sh ≤ 1000) (h4 : L ≤ 1000) (hF : max (S1 + S2) Sh + L = F) (hN : F + L = N)
    (w : World) (hc : Cert5 w cb (.slice a n cap) (.int .i64 r) (.int .i64 knc) (.int .i64 F) (.slice (some ⟨ab, 0, none⟩) N N)) (hp : PrB w pb la S1 G1 lb S2 G2 L) (hh : Cur3 w hb (.slice (some ⟨lh, 0, none⟩) 1160 1160) (.int .i64 Sh) (.int .i64 Gh)) :
    Calls Try.prog 73 #[.pointer (some ⟨cb, 0, none⟩), .pointer (some ⟨pb, 0, none⟩), .pointer (some ⟨hb, 0, none⟩)] w (Says (.bool true) w) := by
  have HP := Lib.hid hp
  have HH := Lib.hid hh
  have HC := Lib.hid hc
  have HF := Lib.hid hF
  have hb1 : F ≤ 4000 := by omega
  have e1 : (F : Int) + (L : Int) = (N : Int) := by omega
  have e2 : IntKind.i64.wrap (N : Int) = (N : Int) := IntWalk.i64_in _ ⟨by omega, by omega⟩
  have S := Lib.hid (show ∀ u, Below w.heap.size w u → ((fun u => u.cell? ⟨pb, 0, none⟩ = some (.slice (some ⟨la, 0, none⟩) 1160 1160) ∧ u.cell? ⟨pb, 1, none⟩ = some (.int .i64 S1) ∧ u.cell? ⟨pb, 2, none⟩ = some (.int .i64 G1) ∧ u.cell? ⟨pb, 3, none⟩ = some (.slice (some ⟨lb, 0, none⟩) 1160 1160) ∧ u.cell? ⟨pb, 4, none⟩ = some (.int .i64 S2) ∧ u.cell? ⟨pb, 5, none⟩ = some (.int .i64 G2) ∧ u.cell? ⟨pb, 6, none⟩ = some (.int .i64 L) ∧ u.cell? ⟨hb, 0, none⟩ = some (.slice (some ⟨lh, 0, none⟩) 1160 1160) ∧ u.cell? ⟨hb, 1, none⟩ = some (.int .i64 Sh) ∧ u.cell? ⟨hb, 2, none⟩ = some (.int .i64 Gh) ∧ u.cell? ⟨cb, 3, none⟩ = some (.int .i64 F) ∧ u.cell? ⟨cb, 4, none⟩ = some (.slice (some ⟨ab, 0, none⟩) N N) ∧ Hid (Below w.heap.size w u)) u) from fun u hu => by
    have p := HP.out.below hu
    have h := HH.out.below hu
    have c := HC.out.below hu
    exact ⟨p.lo.c0, p.lo.c1, p.lo.c2, p.c3, p.c4, p.c5, p.c6, h.c0, h.c1, h.c2, c.c3, c.c4, hu⟩)
  clear hp hh hc hF hN
  go_enter Try.func73, Try.ntmps73
  go_wp2_with fail
  go_region_held3 (fun u => u.cell? ⟨pb, 0, none⟩ = some (.slice (some ⟨la, 0, none⟩) 1160 1160) ∧ u.cell? ⟨pb, 1, none⟩ = some (.int .i64 S1) ∧ u.cell? ⟨pb, 2, none⟩ = some (.int .i64 G1) ∧ u.cell? ⟨pb, 3, none⟩ = some (.slice (some ⟨lb, 0, none⟩) 1160 1160) ∧ u.cell? ⟨pb, 4, none⟩ = some (.int .i64 S2) ∧ u.cell? ⟨pb, 5, none⟩ = some (.int .i64 G2) ∧ u.cell? ⟨pb, 6, none⟩ = some (.int .i64 L) ∧ u.cell? ⟨hb, 0, none⟩ = some (.slice (some ⟨lh, 0, none⟩) 1160 1160) ∧ u.cell? ⟨hb, 1, none⟩ = some (.int .i64 Sh) ∧ u.cell? ⟨hb, 2, none⟩ = some (.int .i64 Gh) ∧ u.cell? ⟨cb, 3, none⟩ = some (.int .i64 F) ∧ u.cell? ⟨cb, 4, none⟩ = some (.slice (some ⟨ab, 0, none⟩) N N) ∧ Hid (Below w.heap.size w u))
    (first | with_reducible exact S.out _ (Below.refl _ _).drew | with_reducible exact S.out _ (below_drew1 hbx))
    (first | (go_at_call 60; ((with_reducible refine (horizon_any la S1 G1 lb S2 G2 L lh Sh Gh h1 h2 h3 h4 F HF.out _).mono ?_); rintro e w1 ⟨rfl, hbx⟩)))
  all_goals go_wp2_with fail
  all_goals go_ret
  all_goals exact ⟨rfl, below_drew1 hbx⟩

set_option maxHeartbeats 1600000 in
theorem check4 (cb pb hb : Nat) (la S1 : Nat) (G1 : Int) (lb S2 : Nat) (G2 : Int) (L : Nat) (lh Sh : Nat) (Gh : Int) (a : Option Addr) (n cap : Nat) (r : Nat) (knc : Int) (F ab N : Nat) (w : World) (hc : Cert5 w cb (.slice a n cap) (.int .i64 r) (.int .i64 knc) (.int .i64 F) (.slice (some ⟨ab, 0, none⟩) N N)) (hp : PrB w pb la S1 G1 lb S2 G2 L) (hh : Cur3 w hb (.slice (some ⟨lh, 0, none⟩) 1160 1160) (.int .i64 Sh) (.int .i64 Gh))
    (hA : Calls Try.prog 75 #[pairV la S1 G1 lb S2 G2 L, curV (some ⟨lh, 0, none⟩) 1160 1160 Sh Gh, .slice (some ⟨ab, 0, none⟩) N N] w (Says (.bool true) w)) :
    Calls Try.prog 74 #[.pointer (some ⟨pb, 0, none⟩), .pointer (some ⟨hb, 0, none⟩), .pointer (some ⟨cb, 0, none⟩)] w (Says (.bool true) w) := by
  have HA := Lib.hid hA
  obtain ⟨⟨c0, c1, c2, f0, f1, f2⟩, c3, c4, c5, c6, f3, f4, f5, f6⟩ := hp
  obtain ⟨d0, d1, d2, g0, g1, g2⟩ := hh
  obtain ⟨⟨k0, k1, k2, _, _, _⟩, k3, k4, _, _⟩ := hc
  clear hA
  go_enter Try.func74, Try.ntmps74
  go_wp2_with fail
  refine HA.out.mono ?_
  rintro e w1 ⟨rfl, hb⟩
  have HB := Lib.hid hb
  clear hb
  go_wp2_with fail
  go_ret
  exact ⟨rfl, HB.out⟩

set_option maxHeartbeats 1600000 in
theorem check5 (pb hb : Nat) (la S1 : Nat) (G1 : Int) (lb S2 : Nat) (G2 : Int) (L : Nat) (lh Sh : Nat) (Gh : Int) (w : World) (hp : PrB w pb la S1 G1 lb S2 G2 L) (hh : Cur3 w hb (.slice (some ⟨lh, 0, none⟩) 1160 1160) (.int .i64 Sh) (.int .i64 Gh))
    (hA : Calls Try.prog 77 #[pairV la S1 G1 lb S2 G2 L, curV (some ⟨lh, 0, none⟩) 1160 1160 Sh Gh] w (Says (.bool true) w)) :
    Calls Try.prog 76 #[.pointer (some ⟨pb, 0, none⟩), .pointer (some ⟨hb, 0, none⟩)] w (Says (.bool true) w) := by
  have HA := Lib.hid hA
  obtain ⟨⟨c0, c1, c2, f0, f1, f2⟩, c3, c4, c5, c6, f3, f4, f5, f6⟩ := hp
  obtain ⟨d0, d1, d2, g0, g1, g2⟩ := hh
  clear hA
  go_enter Try.func76, Try.ntmps76
  go_wp2_with fail
  refine HA.out.mono ?_
  rintro e w1 ⟨rfl, hb⟩
  have HB := Lib.hid hb
  clear hb
  go_wp2_with fail
  go_ret
  exact ⟨rfl, HB.out⟩

/-- What stands while the tests are made. -/
structure CKB (w : World) (cb rb pb hb tb : Nat) (la S1 : Nat) (G1 : Int) (lb S2 : Nat) (G2 : Int) (L : Nat) (lh Sh : Nat) (Gh : Int) (a : Option Addr) (n cap : Nat) (r : Nat) (knc : Int) (F ab N : Nat) (a5 : Option Addr) (n5 cap5 : Nat) (hs : List Int) (F1 F2 Fh : Nat → Int) (A : Nat → Nat) (u : World) : Prop where
  c : Cert5 u cb (.slice a n cap) (.int .i64 r) (.int .i64 knc) (.int .i64 F) (.slice (some ⟨ab, 0, none⟩) N N)
  rs : Cur3 u rb (.slice a5 n5 cap5) (.int .i64 r) (.int .i64 knc)
  pr : PrB u pb la S1 G1 lb S2 G2 L
  hp : Cur3 u hb (.slice (some ⟨lh, 0, none⟩) 1160 1160) (.int .i64 Sh) (.int .i64 Gh)
  rc : RowZ u a n cap hs
  rr : RowZ u a5 n5 cap5 hs
  r1 : RowF u la 1160 F1
  r2 : RowF u lb 1160 F2
  r3 : RowF u lh 1160 Fh
  ra : RowF u ab N (fun i => ((A i : Nat) : Int))
  below : Below w.heap.size w u
section
variable {w u v : World} {cb rb pb hb tb la S1 : Nat} {G1 : Int} {lb S2 : Nat} {G2 : Int} {L lh Sh : Nat} {Gh : Int} {a : Option Addr} {n cap r : Nat} {knc : Int} {F ab N : Nat} {a5 : Option Addr} {n5 cap5 : Nat} {hs : List Int} {F1 F2 Fh : Nat → Int} {A : Nat → Nat}
theorem CKB.call (h : CKB w cb rb pb hb tb la S1 G1 lb S2 G2 L lh Sh Gh a n cap r knc F ab N a5 n5 cap5 hs F1 F2 Fh A u) (hb' : Below u.heap.size u v) : CKB w cb rb pb hb tb la S1 G1 lb S2 G2 L lh Sh Gh a n cap r knc F ab N a5 n5 cap5 hs F1 F2 Fh A v :=
  ⟨h.c.below hb', h.rs.below hb', h.pr.below hb', h.hp.below hb', h.rc.under hb', h.rr.under hb', h.r1.under hb', h.r2.under hb', h.r3.under hb', h.ra.under hb', h.below.trans (hb'.mono h.below.size)⟩
end
/-- The list of the tests. -/
structure Tests (cb rb pb hb tb : Nat) (u : World) : Prop where
  t0 : u.cell? ⟨tb, 0, none⟩ = some (.func (.func 69) #[] #[.pointer (some ⟨cb, 0, none⟩), .pointer (some ⟨rb, 0, none⟩)])
  t1 : u.cell? ⟨tb, 1, none⟩ = some (.func (.func 71) #[] #[.pointer (some ⟨pb, 0, none⟩), .pointer (some ⟨rb, 0, none⟩), .pointer (some ⟨hb, 0, none⟩)])
  t2 : u.cell? ⟨tb, 2, none⟩ = some (.func (.func 73) #[] #[.pointer (some ⟨cb, 0, none⟩), .pointer (some ⟨pb, 0, none⟩), .pointer (some ⟨hb, 0, none⟩)])
  t3 : u.cell? ⟨tb, 3, none⟩ = some (.func (.func 74) #[] #[.pointer (some ⟨pb, 0, none⟩), .pointer (some ⟨hb, 0, none⟩), .pointer (some ⟨cb, 0, none⟩)])
  t4 : u.cell? ⟨tb, 4, none⟩ = some (.func (.func 76) #[] #[.pointer (some ⟨pb, 0, none⟩), .pointer (some ⟨hb, 0, none⟩)])
theorem Tests.under {cb rb pb hb tb : Nat} {u v : World} (h : Tests cb rb pb hb tb u) (hb' : Below u.heap.size u v) : Tests cb rb pb hb tb v :=
  ⟨(hb'.cell (p := ⟨tb, 0, none⟩) (lt_of_cell h.t0)).trans h.t0, (hb'.cell (p := ⟨tb, 1, none⟩) (lt_of_cell h.t1)).trans h.t1, (hb'.cell (p := ⟨tb, 2, none⟩) (lt_of_cell h.t2)).trans h.t2, (hb'.cell (p := ⟨tb, 3, none⟩) (lt_of_cell h.t3)).trans h.t3, (hb'.cell (p := ⟨tb, 4, none⟩) (lt_of_cell h.t4)).trans h.t4⟩

set_option maxRecDepth 100000 in
set_option maxHeartbeats 6400000 in
theorem check_ok (a1 : Option Addr) (n1 cap1 : Nat) (z1 : List Int) (p1 : Nat) (i1 : Int) (g1 : Good z1 p1 i1) (a2 : Option Addr) (n2 cap2 : Nat) (z2 : List Int) (p2 : Nat) (i2 : Int) (g2 : Good z2 p2 i2) (L : Nat) (hL2 : L ≤ 120) {y1 : List Int} {q1 : Nat} {j1 : Int} {y2 : List Int} {q2 : Nat} {j2 : Int} (hn1 : NormC z1 p1 i1 y1 q1 j1) (hn2 : NormC z2 p2 i2 y2 q2 j2) (hLL : q1 / Nat.gcd q1 q2 * q2 = L) (a : Option Addr) (n cap : Nat) (hs : List Int) (r : Nat) (knc : Int) (F ab N : Nat) (A : Nat → Nat) (hf : EForm hs r knc (eConv z1 p1 i1 z2 p2 i2)) (hF : F = hori (y1.length - q1) (y2.length - q2) (hs.length - r) L) (hN : N = F + L) (hA : ∀ t, t < N → AttP y1 q1 j1 y2 q2 j2 hs r knc L (A t) t)
    (w : World) (h1 : RowZ w a1 n1 cap1 z1) (h2 : RowZ w a2 n2 cap2 z2) (hr : RowZ w a n cap hs) (ha : RowF w ab N (fun i => ((A i : Nat) : Int))) :
    Calls Try.prog 32 #[curV a1 n1 cap1 p1 i1, curV a2 n2 cap2 p2 i2, certV a n cap r knc F ab N] w (Says (.bool true) w) := by
  have hmf : ∀ (fn : Fn) (first cap : Array Value) (w : World), (Instr.makeFunc fn first cap).run Try.prog w = .ok (.func fn first cap) w := fun _ _ _ _ => rfl
  have k1 := hn1.good g1
  have k2 := hn2.good g2
  have hM := (lcm_of k1.p1 k2.p1 hLL).mult
  have hE : eConv y1 q1 j1 y2 q2 j2 = eConv z1 p1 i1 z2 p2 i2 := by unfold eConv; rw [funext (hn1.eform g1).2.1, funext (hn2.eform g2).2.1]
  rw [← hE] at hf
  obtain ⟨s5, hs5, hns5⟩ := norm_self hf
  have HG := Lib.hid (And.intro g1 g2)
  have HK := Lib.hid (And.intro k1 k2)
  have HN := Lib.hid (And.intro hn1 hn2)
  have HLL := Lib.hid hLL
  have HM := Lib.hid hM
  have HF := Lib.hid hf
  have HFF := Lib.hid (show max (y1.length - q1 + (y2.length - q2)) (hs.length - r) + L = F from hF.symm)
  have HNF := Lib.hid hN.symm
  have gp1 := hf.1.p1
  have gp2 := hf.1.p2
  have gp3 := hf.1.p3
  have gp4 := hf.1.few
  have b1 : y1.length - q1 ≤ 400 := by have := k1.few; omega
  have b2 : y2.length - q2 ≤ 400 := by have := k2.few; omega
  have b3 : hs.length - r ≤ 400 := by omega
  have hN1160 : N ≤ 1160 := by
    have := k1.few; have := k1.p1; have := k1.p3; have := k2.few; have := k2.p1; have := k2.p3
    unfold hori at hF; omega
  have HA := Lib.hid (fun t ht => (attP_iff hF.symm).1 (hA t ht))
  have HS5 := Lib.hid (And.intro (show hs.length = (hs.length - r) + r by omega) hns5)
  have HI := Lib.hid (show In64 (r : Int) ∧ In64 knc from ⟨⟨by omega, by omega⟩, ⟨by have := hf.1.i0; omega, by have := hf.1.i1; omega⟩⟩)
  obtain ⟨W, hW⟩ : ∃ W, ((w.alloc (.cells #[.slice a1 n1 cap1, .int .i64 p1, .int .i64 i1] 24)).alloc (.cells #[.slice a2 n2 cap2, .int .i64 p2, .int .i64 i2] 24)).alloc (.cells #[.slice a n cap, .int .i64 r, .int .i64 knc, .int .i64 F, .slice (some ⟨ab, 0, none⟩) N N] 40) = W := ⟨_, rfl⟩
  have hB : Below w.heap.size w W := by rw [← hW]; exact (((Below.refl _ _).alloc (Nat.le_refl _) _).alloc (by simp) _).alloc (by simp; omega) _
  have hWs : W.heap.size = w.heap.size + 3 := by rw [← hW]; simp
  have m1 : Cur3 W w.heap.size (.slice a1 n1 cap1) (.int .i64 p1) (.int .i64 i1) := by rw [← hW]; exact ((Cur3.new w _ _ _ _).alloc _).alloc _
  have m2 : Cur3 W (w.heap.size + 1) (.slice a2 n2 cap2) (.int .i64 p2) (.int .i64 i2) := by rw [← hW]; exact (Cur3.new2 w _ _ _ _ _).alloc _
  have mr : Cert5 W (w.heap.size + 2) (.slice a n cap) (.int .i64 r) (.int .i64 knc) (.int .i64 F) (.slice (some ⟨ab, 0, none⟩) N N) := by
    rw [← hW]
    have := cert5_new ((w.alloc (.cells #[.slice a1 n1 cap1, .int .i64 p1, .int .i64 i1] 24)).alloc (.cells #[.slice a2 n2 cap2, .int .i64 p2, .int .i64 i2] 24)) (.slice a n cap) (.int .i64 r) (.int .i64 knc) (.int .i64 F) (.slice (some ⟨ab, 0, none⟩) N N) 40
    simpa using this
  have HB := Lib.hid hB
  have KC := Lib.hid mr
  have HR := Lib.hid (And.intro (And.intro (h1.under hB) (h2.under hB)) (And.intro (hr.under hB) (ha.under hB)))
  have HW := Lib.hid hW
  obtain ⟨c0, c1, c2, f0, f1, f2⟩ := m1
  obtain ⟨d0, d1, d2, e0, e1, e2⟩ := m2
  clear g1 g2 hn1 hn2 hLL hM k1 k2 h1 h2 hB mr hWs hW hE hf hF hN hA hr ha hs5 hns5
  go_enter Try.func32, Try.ntmps32
  go_upto_region 1 with fail
  try rw [HW.out]
  go_wp2_with fail
  clear c0 c1 c2 f0 f1 f2 d0 d1 d2 e0 e1 e2
  refine (paired_ok a1 n1 cap1 z1 p1 i1 HG.out.1 a2 n2 cap2 z2 p2 i2 HG.out.2 HN.out.1 HN.out.2 L HLL.out hL2 _ HR.out.1.1 HR.out.1.2).mono ?_
  rintro e v1 ⟨la, lb, rfl, hb, hr1, hr2⟩
  obtain ⟨W2, hw⟩ : ∃ W2, v1.alloc (.cells #[.slice (some ⟨la, 0, none⟩) 1160 1160, .int .i64 (y1.length - q1 : Nat), .int .i64 (growI y1 q1 j1 L), .slice (some ⟨lb, 0, none⟩) 1160 1160, .int .i64 (y2.length - q2 : Nat), .int .i64 (growI y2 q2 j2 L), .int .i64 L] 68) = W2 := ⟨_, rfl⟩
  have hz : Below v1.heap.size v1 W2 := by rw [← hw]; exact (Below.refl _ _).alloc (Nat.le_refl _) _
  have hWz : Below W.heap.size W W2 := hb.trans (hz.mono hb.size)
  have PB := Lib.hid (show PrB W2 v1.heap.size la (y1.length - q1) (growI y1 q1 j1 L) lb (y2.length - q2) (growI y2 q2 j2 L) L by rw [← hw]; exact pr7_new v1 _ _ _ _ _ _ _ _)
  have KC2 := Lib.hid (KC.out.below hWz)
  have HB2 := Lib.hid (HB.out.trans (hWz.mono HB.out.size))
  have RR := Lib.hid (And.intro (And.intro (hr1.under hz) (hr2.under hz)) (And.intro (HR.out.2.1.under hWz) (HR.out.2.2.under hWz)))
  have HW2 := Lib.hid hw
  clear hb hr1 hr2 hw hz hWz
  obtain ⟨⟨c0, c1, c2, f0, f1, f2⟩, c3, c4, f3, f4⟩ := KC2.out
  go_upto_region 4 with fail
  try rw [HW2.out]
  go_wp2_with fail
  clear c0 c1 c2 f0 f1 f2 c3 c4 f3 f4
  refine (normal_ok a n cap hs r knc HF.out.1 _ RR.out.2.1).mono ?_
  rintro e v2 ⟨a5, n5, cap5, zs5, p5, inc5, rfl, hb2, hr5, hn5, hx5⟩
  obtain ⟨rfl, rfl, rfl⟩ := HS5.out.2.canon HF.out.1 HF.out.1 hn5 (fun _ => rfl)
  obtain ⟨W3, hw3⟩ : ∃ W3, v2.alloc (.cells #[.slice a5 n5 cap5, .int .i64 r, .int .i64 knc] 24) = W3 := ⟨_, rfl⟩
  have hz3 : Below v2.heap.size v2 W3 := by rw [← hw3]; exact (Below.refl _ _).alloc (Nat.le_refl _) _
  have hb3 : Below W2.heap.size W2 W3 := hb2.trans (hz3.mono hb2.size)
  have PB3 := Lib.hid (PB.out.below hb3)
  have KC3 := Lib.hid (KC2.out.below hb3)
  have HB3 := Lib.hid (HB2.out.trans (hb3.mono HB2.out.size))
  have RR3 := Lib.hid (And.intro (And.intro (RR.out.1.1.under hb3) (RR.out.1.2.under hb3)) (And.intro (RR.out.2.1.under hb3) (RR.out.2.2.under hb3)))
  have X3 := Lib.hid (show Bx W3 v2.heap.size a5 n5 cap5 r knc hs by rw [← hw3]; exact Bx.new hr5)
  have HW3 := Lib.hid hw3
  clear hb2 hr5 hn5 hx5 hw3 hz3 hb3
  obtain ⟨⟨c0, c1, c2, f0, f1, f2⟩, c3, c4, c5, c6, f3, f4, f5, f6⟩ := PB3.out
  obtain ⟨d0, d1, d2, e0, e1, e2⟩ := X3.out.box
  go_upto_region 7 with fail
  try rw [HW3.out]
  go_wp2_with fail
  clear c0 c1 c2 f0 f1 f2 c3 c4 c5 c6 f3 f4 f5 f6 d0 d1 d2 e0 e1 e2
  refine (described_ok a5 n5 cap5 hs r knc HF.out.1 HS5.out.2 (hs.length - r) HS5.out.1 L hL2 (growI hs r knc L) rfl _ X3.out.row).mono ?_
  rintro e v3 ⟨lh, rfl, hb4, hlh, hr4⟩
  obtain ⟨W4, hw4⟩ : ∃ W4, v3.alloc (.cells #[.slice (some ⟨lh, 0, none⟩) 1160 1160, .int .i64 (hs.length - r : Nat), .int .i64 (growI hs r knc L)] 66) = W4 := ⟨_, rfl⟩
  have hz4 : Below v3.heap.size v3 W4 := by rw [← hw4]; exact (Below.refl _ _).alloc (Nat.le_refl _) _
  have hb5 : Below W3.heap.size W3 W4 := hb4.trans (hz4.mono hb4.size)
  obtain ⟨tb, htb⟩ : ∃ tb, W4.heap.size = tb := ⟨_, rfl⟩
  have CK := Lib.hid (show CKB w (w.heap.size + 1 + 1) v2.heap.size v1.heap.size v3.heap.size tb la (y1.length - q1) (growI y1 q1 j1 L) lb (y2.length - q2) (growI y2 q2 j2 L) L lh (hs.length - r) (growI hs r knc L) a n cap r knc F ab N a5 n5 cap5 hs (atC y1 q1 j1) (atC y2 q2 j2) (atC hs r knc) A W4 from ⟨KC3.out.below hb5, X3.out.box.below hb5, PB3.out.below hb5, by rw [← hw4]; exact Cur3.new v3 _ _ _ _, RR3.out.2.1.under hb5, X3.out.row.under hb5, RR3.out.1.1.under hb5, RR3.out.1.2.under hb5, hr4.under hz4, RR3.out.2.2.under hb5, HB3.out.trans (hb5.mono HB3.out.size)⟩)
  have HW4 := Lib.hid hw4
  clear hb4 hlh hr4 hw4 hz4 hb5
  go_upto_region 8 with fail
  try rw [HW4.out]
  obtain ⟨W5, hw5⟩ : ∃ W5, W4.alloc (.cells #[.func (.func 69) #[] #[.pointer (some ⟨w.heap.size + 1 + 1, 0, none⟩), .pointer (some ⟨v2.heap.size, 0, none⟩)], .func (.func 71) #[] #[.pointer (some ⟨v1.heap.size, 0, none⟩), .pointer (some ⟨v2.heap.size, 0, none⟩), .pointer (some ⟨v3.heap.size, 0, none⟩)], .func (.func 73) #[] #[.pointer (some ⟨w.heap.size + 1 + 1, 0, none⟩), .pointer (some ⟨v1.heap.size, 0, none⟩), .pointer (some ⟨v3.heap.size, 0, none⟩)], .func (.func 74) #[] #[.pointer (some ⟨v1.heap.size, 0, none⟩), .pointer (some ⟨v3.heap.size, 0, none⟩), .pointer (some ⟨w.heap.size + 1 + 1, 0, none⟩)], .func (.func 76) #[] #[.pointer (some ⟨v1.heap.size, 0, none⟩), .pointer (some ⟨v3.heap.size, 0, none⟩)]] 26) = W5 := ⟨_, rfl⟩
  have hz5 : Below W4.heap.size W4 W5 := by rw [← hw5]; exact (Below.refl _ _).alloc (Nat.le_refl _) _
  have TS := Lib.hid (show Tests (w.heap.size + 1 + 1) v2.heap.size v1.heap.size v3.heap.size tb W5 from by
    have c5 : Cert5 (W4.alloc (.cells #[.func (.func 69) #[] #[.pointer (some ⟨w.heap.size + 1 + 1, 0, none⟩), .pointer (some ⟨v2.heap.size, 0, none⟩)], .func (.func 71) #[] #[.pointer (some ⟨v1.heap.size, 0, none⟩), .pointer (some ⟨v2.heap.size, 0, none⟩), .pointer (some ⟨v3.heap.size, 0, none⟩)], .func (.func 73) #[] #[.pointer (some ⟨w.heap.size + 1 + 1, 0, none⟩), .pointer (some ⟨v1.heap.size, 0, none⟩), .pointer (some ⟨v3.heap.size, 0, none⟩)], .func (.func 74) #[] #[.pointer (some ⟨v1.heap.size, 0, none⟩), .pointer (some ⟨v3.heap.size, 0, none⟩), .pointer (some ⟨w.heap.size + 1 + 1, 0, none⟩)], .func (.func 76) #[] #[.pointer (some ⟨v1.heap.size, 0, none⟩), .pointer (some ⟨v3.heap.size, 0, none⟩)]] 26)) W4.heap.size _ _ _ _ _ := cert5_new W4 _ _ _ _ _ _
    rw [hw5, htb] at c5
    exact ⟨c5.lo.c0, c5.lo.c1, c5.lo.c2, c5.c3, c5.c4⟩)
  have CK5 := Lib.hid (CK.out.call hz5)
  have HW5 := Lib.hid hw5
  clear hz5 hw5
  go_upto_region 9 with fail
  try rw [HW5.out]
  go_wp2_with fail
  have ev1 := Lib.hid (show ∀ (args : Array Value) (w : World), (callFunc 69 args).run Try.prog w = .ok (.enter 69 args) w from enters_of Try.func69 (by kernel_rfl) rfl)
  have ev2 := Lib.hid (show ∀ (args : Array Value) (w : World), (callFunc 71 args).run Try.prog w = .ok (.enter 71 args) w from enters_of Try.func71 (by kernel_rfl) rfl)
  have ev3 := Lib.hid (show ∀ (args : Array Value) (w : World), (callFunc 73 args).run Try.prog w = .ok (.enter 73 args) w from enters_of Try.func73 (by kernel_rfl) rfl)
  have ev4 := Lib.hid (show ∀ (args : Array Value) (w : World), (callFunc 74 args).run Try.prog w = .ok (.enter 74 args) w from enters_of Try.func74 (by kernel_rfl) rfl)
  have ev5 := Lib.hid (show ∀ (args : Array Value) (w : World), (callFunc 76 args).run Try.prog w = .ok (.enter 76 args) w from enters_of Try.func76 (by kernel_rfl) rfl)
  obtain ⟨cb, hcb⟩ : ∃ cb, w.heap.size + 1 + 1 = cb := ⟨_, rfl⟩
  rw [hcb] at TS CK5
  clear hmf htb hcb HW5 HW4 HW3 HW2 HW CK X3 PB PB3 KC KC2 KC3 HB HB2 HB3 RR RR3 HR
  have hm1 : ∀ t, t < 1160 → Mid (atC y1 q1 j1 t) := fun t ht => at_mid2 HK.out.1 (by omega)
  have hm2 : ∀ t, t < 1160 → Mid (atC y2 q2 j2 t) := fun t ht => at_mid2 HK.out.2 (by omega)
  have HMM := Lib.hid (And.intro hm1 hm2)
  have hFG := form_grow HK.out.1 HK.out.2 HF.out HM.out hL2
  have HFG := Lib.hid hFG
  have L1 := HM.out.one
  clear hm1 hm2 hFG
  generalize hv1 : v1.heap.size = pb at *
  generalize hv2 : v2.heap.size = rb at *
  generalize hv3 : v3.heap.size = hb at *
  clear hv1 hv2 hv3
  go_loopw [42] (fun s42 wx => ∃ k : Nat, s42 = .int .i64 k ∧ k ≤ 5 ∧ Hid (CKB w cb rb pb hb tb la (y1.length - q1) (growI y1 q1 j1 L) lb (y2.length - q2) (growI y2 q2 j2 L) L lh (hs.length - r) (growI hs r knc L) a n cap r knc F ab N a5 n5 cap5 hs (atC y1 q1 j1) (atC y2 q2 j2) (atC hs r knc) A wx ∧ Tests cb rb pb hb tb wx)) (fun s42 _ => 5 - (intOf s42).toNat)
  case atStart => exact ⟨0, by go_num, Nat.zero_le _, CK5.out, TS.out⟩
  case round =>
    obtain ⟨k, rfl, hk, PT⟩ := hrel
    obtain ⟨wt, rfl⟩ : ∃ u : World, u = wr := ⟨_, rfl⟩
    by_cases hlt : k < 5
    · have hlti : (k : Int) < 5 := by omega
      rcases (show k = 0 ∨ k = 1 ∨ k = 2 ∨ k = 3 ∨ k = 4 by omega) with rfl | rfl | rfl | rfl | rfl
      · have ev := ev1.out
        have tc := PT.out.2.t0
        go_wp2_with fail
        clear tc
        refine (check1 cb rb a n cap r knc F ab N a5 n5 cap5 hs _ PT.out.1.c PT.out.1.rs PT.out.1.rc PT.out.1.rr).mono ?_
        rintro e w1 ⟨rfl, hbx⟩
        have PX := Lib.hid (And.intro (PT.out.1.call hbx) (PT.out.2.under hbx))
        clear hbx ev
        go_wp2_with fail
        go_roundw
        case rel => exact ⟨1, by go_num, by omega, PX⟩
        case measure => simp [intOf]
      · have ev := ev2.out
        have tc := PT.out.2.t1
        go_wp2_with fail
        clear tc
        refine (check2 pb rb hb la (y1.length - q1) (growI y1 q1 j1 L) lb (y2.length - q2) (growI y2 q2 j2 L) L lh (hs.length - r) (growI hs r knc L) (atC y1 q1 j1) (atC y2 q2 j2) a5 n5 cap5 r knc gp1 gp2 hL2 HFG.out.2.1 (HMM.out.1 0 (by omega)) (HMM.out.2 0 (by omega)) HFG.out.1.symm _ PT.out.1.pr PT.out.1.rs PT.out.1.hp PT.out.1.r1 PT.out.1.r2).mono ?_
        rintro e w1 ⟨rfl, hbx⟩
        have PX := Lib.hid (And.intro (PT.out.1.call hbx) (PT.out.2.under hbx))
        clear hbx ev
        go_wp2_with fail
        go_roundw
        case rel => exact ⟨2, by go_num, by omega, PX⟩
        case measure => simp [intOf]
      · have ev := ev3.out
        have tc := PT.out.2.t2
        go_wp2_with fail
        clear tc
        refine (check3 cb pb hb la (y1.length - q1) (growI y1 q1 j1 L) lb (y2.length - q2) (growI y2 q2 j2 L) L lh (hs.length - r) (growI hs r knc L) a n cap r knc F ab N (by omega) (by omega) (by omega) (by omega) HFF.out HNF.out _ PT.out.1.c PT.out.1.pr PT.out.1.hp).mono ?_
        rintro e w1 ⟨rfl, hbx⟩
        have PX := Lib.hid (And.intro (PT.out.1.call hbx) (PT.out.2.under hbx))
        clear hbx ev
        go_wp2_with fail
        go_roundw
        case rel => exact ⟨3, by go_num, by omega, PX⟩
        case measure => simp [intOf]
      · have ev := ev4.out
        have tc := PT.out.2.t3
        go_wp2_with fail
        clear tc
        refine (check4 cb pb hb la (y1.length - q1) (growI y1 q1 j1 L) lb (y2.length - q2) (growI y2 q2 j2 L) L lh (hs.length - r) (growI hs r knc L) a n cap r knc F ab N _ PT.out.1.c PT.out.1.pr PT.out.1.hp (attained_ok la (y1.length - q1) (growI y1 q1 j1 L) lb (y2.length - q2) (growI y2 q2 j2 L) L lh (hs.length - r) (growI hs r knc L) (atC y1 q1 j1) (atC y2 q2 j2) (atC hs r knc) ab N N hN1160 (by omega) (by omega) (by omega) (by omega) HMM.out.1 HMM.out.2 F HFF.out A (fun t ht => HA.out t ht) _ PT.out.1.r1 PT.out.1.r2 PT.out.1.r3 PT.out.1.ra)).mono ?_
        rintro e w1 ⟨rfl, hbx⟩
        have PX := Lib.hid (And.intro (PT.out.1.call hbx) (PT.out.2.under hbx))
        clear hbx ev
        go_wp2_with fail
        go_roundw
        case rel => exact ⟨4, by go_num, by omega, PX⟩
        case measure => simp [intOf]
      · have ev := ev5.out
        have tc := PT.out.2.t4
        have BM := Lib.hid (show (max (y1.length - q1) (hs.length - r) + L) + (max (y2.length - q2) (hs.length - r) + L) ≤ 1161 ∧ (1 ≤ max (y1.length - q1) (hs.length - r) + L ∧ 1 ≤ max (y2.length - q2) (hs.length - r) + L) by
          have := HK.out.1.few; have := HK.out.1.p1; have := HK.out.1.p3; have := HK.out.2.few; have := HK.out.2.p1; have := HK.out.2.p3; omega)
        go_wp2_with fail
        clear tc
        refine (check5 pb hb la (y1.length - q1) (growI y1 q1 j1 L) lb (y2.length - q2) (growI y2 q2 j2 L) L lh (hs.length - r) (growI hs r knc L) _ PT.out.1.pr PT.out.1.hp (bounded_ok la (y1.length - q1) (growI y1 q1 j1 L) lb (y2.length - q2) (growI y2 q2 j2 L) L lh (hs.length - r) (growI hs r knc L) (atC y1 q1 j1) (atC y2 q2 j2) (atC hs r knc) (by omega) (by omega) (by omega) (by omega) HMM.out.1 HMM.out.2 _ _ rfl rfl BM.out.1 BM.out.2 (fun s u h1 h2 => below_ex HK.out.1 HK.out.2 HF.out (by have := BM.out.1; omega) (by have := BM.out.1; omega)) _ PT.out.1.r1 PT.out.1.r2 PT.out.1.r3)).mono ?_
        rintro e w1 ⟨rfl, hbx⟩
        have PX := Lib.hid (And.intro (PT.out.1.call hbx) (PT.out.2.under hbx))
        clear hbx ev
        go_wp2_with fail
        go_roundw
        case rel => exact ⟨5, by go_num, by omega, PX⟩
        case measure => simp [intOf]
    · obtain rfl : k = 5 := by omega
      have HBF := Lib.hid PT.out.1.below
      go_wp2_with fail
      go_ret
      exact ⟨rfl, HBF.out⟩


end Go.Proofs.Ytladmpoopfabdaa

namespace Go.Proofs.Ytladmpoopfabdaa
open Go.RowKit
set_option linter.unusedSimpArgs false
set_option linter.unusedVariables false

theorem e5_good : Good [0] 1 5 := (okC_iff [0] 1 5).1 (by decide)
theorem e5_at (t : Nat) : atC [0] 1 5 t = 5 * (t : Int) := by
  have hp := e5_good.per (show ¬ ([0] : List Int).getD (([0] : List Int).length - 1) 0 = infV by decide)
  induction t with
  | zero => decide
  | succ t ih => have := hp t (Nat.zero_le _); omega
theorem ex_conv : eConv [0] 1 3 [0] 1 5 = eC [0] 1 3 := by
  refine funext fun t => ole_anti ?_ (oconv_great fun s hs => ?_)
  · have h := oconv_le (a := eC [0] 1 3) (b := eC [0] 1 5) (Nat.le_refl t)
    rw [show t - t = 0 by omega, eC_fin e0_fin, eC_fin e0_fin, e5_at, show oadd (some (atC [0] 1 3 t)) (some (5 * ((0 : Nat) : Int))) = some (atC [0] 1 3 t) by show some (_ + _) = _; congr 1; omega] at h
    rw [eC_fin e0_fin]; exact h
  · rw [eC_fin e0_fin, eC_fin e0_fin, eC_fin e0_fin, e5_at, e0_at, e0_at]
    exact ole_some (by omega)
theorem ex_line : EForm [0] 1 3 (eC [0] 1 3) :=
  ⟨e0_good, fun _ => rfl, 0, rfl, e0_good.per e0_fin, by decide, fun q h1 h2 => by omega, .inl rfl⟩
theorem ex_can : ECan (eConv [0] 1 3 [0] 1 5) := by rw [ex_conv]; exact self_can e0_good

theorem lits7 (w : World) : Bx ((((w.alloc (.cells #[.int .i64 0] 3)).alloc (.cells #[.int .i64 0] 3)).alloc (.cells #[.slice (some ⟨w.heap.size, 0, none⟩) 1 1, .int .i64 1, .int .i64 3] 24)).alloc (.cells #[.slice (some ⟨w.heap.size + 1, 0, none⟩) 1 1, .int .i64 1, .int .i64 5] 24)) (w.heap.size + 1 + 1) (some ⟨w.heap.size, 0, none⟩) 1 1 1 3 [0] ∧
    Bx ((((w.alloc (.cells #[.int .i64 0] 3)).alloc (.cells #[.int .i64 0] 3)).alloc (.cells #[.slice (some ⟨w.heap.size, 0, none⟩) 1 1, .int .i64 1, .int .i64 3] 24)).alloc (.cells #[.slice (some ⟨w.heap.size + 1, 0, none⟩) 1 1, .int .i64 1, .int .i64 5] 24)) (w.heap.size + 1 + 1 + 1) (some ⟨w.heap.size + 1, 0, none⟩) 1 1 1 5 [0] ∧
    Below w.heap.size w ((((w.alloc (.cells #[.int .i64 0] 3)).alloc (.cells #[.int .i64 0] 3)).alloc (.cells #[.slice (some ⟨w.heap.size, 0, none⟩) 1 1, .int .i64 1, .int .i64 3] 24)).alloc (.cells #[.slice (some ⟨w.heap.size + 1, 0, none⟩) 1 1, .int .i64 1, .int .i64 5] 24)) := by
  have r1 := rowZ_lit w [0] 3 (by decide) (by decide)
  have r2 := rowZ_lit (w.alloc (.cells #[.int .i64 0] 3)) [0] 3 (by decide) (by decide)
  have e1 : (w.alloc (.cells #[.int .i64 0] 3)).heap.size = w.heap.size + 1 := by simp
  rw [e1] at r2
  have b1 := Cur3.new ((w.alloc (.cells #[.int .i64 0] 3)).alloc (.cells #[.int .i64 0] 3)) (.slice (some ⟨w.heap.size, 0, none⟩) 1 1) (.int .i64 1) (.int .i64 3) 24
  rw [show ((w.alloc (.cells #[.int .i64 0] 3)).alloc (.cells #[.int .i64 0] 3)).heap.size = w.heap.size + 1 + 1 by simp] at b1
  have b2 := Cur3.new (((w.alloc (.cells #[.int .i64 0] 3)).alloc (.cells #[.int .i64 0] 3)).alloc (.cells #[.slice (some ⟨w.heap.size, 0, none⟩) 1 1, .int .i64 1, .int .i64 3] 24)) (.slice (some ⟨w.heap.size + 1, 0, none⟩) 1 1) (.int .i64 1) (.int .i64 5) 24
  rw [show (((w.alloc (.cells #[.int .i64 0] 3)).alloc (.cells #[.int .i64 0] 3)).alloc (.cells #[.slice (some ⟨w.heap.size, 0, none⟩) 1 1, .int .i64 1, .int .i64 3] 24)).heap.size = w.heap.size + 1 + 1 + 1 by simp] at b2
  exact ⟨⟨b1.alloc _, ((r1.alloc _).alloc _).alloc _⟩, ⟨b2, (r2.alloc _).alloc _⟩, ((((Below.refl _ _).alloc (Nat.le_refl _) _).alloc (by simp) _).alloc (by simp; omega) _).alloc (by simp; omega) _⟩

set_option maxRecDepth 100000 in
set_option maxHeartbeats 3200000 in
theorem check_zero (a1 : Option Addr) (n1 cap1 : Nat) (z1 : List Int) (p1 : Nat) (i1 : Int) (g1 : Good z1 p1 i1) (a2 : Option Addr) (n2 cap2 : Nat) (z2 : List Int) (p2 : Nat) (i2 : Int) (g2 : Good z2 p2 i2) (L : Nat) (hL : LcmN z1 p1 i1 z2 p2 i2 L) (hL2 : L ≤ 120) (w : World) (h1 : RowZ w a1 n1 cap1 z1) (h2 : RowZ w a2 n2 cap2 z2) :
    Calls Try.prog 32 #[curV a1 n1 cap1 p1 i1, curV a2 n2 cap2 p2 i2, .agg #[.slice none 0 0, .int .i64 0, .int .i64 0, .int .i64 0, .slice none 0 0]] w (Says (.bool false) w) := by
  obtain ⟨y1, q1, j1, y2, q2, j2, hn1, hn2, hLL⟩ := hL
  have k1 := hn1.good g1
  have k2 := hn2.good g2
  have hM := (lcm_of k1.p1 k2.p1 hLL).mult
  have HE := Lib.hid (show eConv y1 q1 j1 y2 q2 j2 = eConv z1 p1 i1 z2 p2 i2 by unfold eConv; rw [funext (hn1.eform g1).2.1, funext (hn2.eform g2).2.1])
  have HG := Lib.hid (And.intro g1 g2)
  have HK := Lib.hid (And.intro k1 k2)
  have HN := Lib.hid (And.intro hn1 hn2)
  have HLL := Lib.hid hLL
  have HM := Lib.hid hM
  obtain ⟨W, hW⟩ : ∃ W, ((w.alloc (.cells #[.slice a1 n1 cap1, .int .i64 p1, .int .i64 i1] 24)).alloc (.cells #[.slice a2 n2 cap2, .int .i64 p2, .int .i64 i2] 24)).alloc (.cells #[.slice none 0 0, .int .i64 0, .int .i64 0, .int .i64 0, .slice none 0 0] 40) = W := ⟨_, rfl⟩
  have hB : Below w.heap.size w W := by rw [← hW]; exact (((Below.refl _ _).alloc (Nat.le_refl _) _).alloc (by simp) _).alloc (by simp; omega) _
  have m1 : Cur3 W w.heap.size (.slice a1 n1 cap1) (.int .i64 p1) (.int .i64 i1) := by rw [← hW]; exact ((Cur3.new w _ _ _ _).alloc _).alloc _
  have m2 : Cur3 W (w.heap.size + 1) (.slice a2 n2 cap2) (.int .i64 p2) (.int .i64 i2) := by rw [← hW]; exact (Cur3.new2 w _ _ _ _ _).alloc _
  have mr : Cert5 W (w.heap.size + 2) (.slice none 0 0) (.int .i64 0) (.int .i64 0) (.int .i64 0) (.slice none 0 0) := by
    rw [← hW]
    have := cert5_new ((w.alloc (.cells #[.slice a1 n1 cap1, .int .i64 p1, .int .i64 i1] 24)).alloc (.cells #[.slice a2 n2 cap2, .int .i64 p2, .int .i64 i2] 24)) (.slice none 0 0) (.int .i64 0) (.int .i64 0) (.int .i64 0) (.slice none 0 0) 40
    simpa using this
  have HB := Lib.hid hB
  have KC := Lib.hid mr
  have HR := Lib.hid (And.intro (h1.under hB) (h2.under hB))
  have HW := Lib.hid hW
  obtain ⟨c0, c1, c2, f0, f1, f2⟩ := m1
  obtain ⟨d0, d1, d2, e0, e1, e2⟩ := m2
  clear g1 g2 hn1 hn2 hLL hM k1 k2 h1 h2 hB mr hW
  go_enter Try.func32, Try.ntmps32
  go_upto_region 1 with fail
  try rw [HW.out]
  go_wp2_with fail
  clear c0 c1 c2 f0 f1 f2 d0 d1 d2 e0 e1 e2
  refine (paired_ok a1 n1 cap1 z1 p1 i1 HG.out.1 a2 n2 cap2 z2 p2 i2 HG.out.2 HN.out.1 HN.out.2 L HLL.out hL2 _ HR.out.1 HR.out.2).mono ?_
  rintro e v1 ⟨la, lb, rfl, hb, hr1, hr2⟩
  obtain ⟨W2, hw⟩ : ∃ W2, v1.alloc (.cells #[.slice (some ⟨la, 0, none⟩) 1160 1160, .int .i64 (y1.length - q1 : Nat), .int .i64 (growI y1 q1 j1 L), .slice (some ⟨lb, 0, none⟩) 1160 1160, .int .i64 (y2.length - q2 : Nat), .int .i64 (growI y2 q2 j2 L), .int .i64 L] 68) = W2 := ⟨_, rfl⟩
  have hz : Below v1.heap.size v1 W2 := by rw [← hw]; exact (Below.refl _ _).alloc (Nat.le_refl _) _
  have hWz : Below W.heap.size W W2 := hb.trans (hz.mono hb.size)
  have KC2 := Lib.hid (KC.out.below hWz)
  have HB2 := Lib.hid (HB.out.trans (hWz.mono HB.out.size))
  have HW2 := Lib.hid hw
  clear hb hr1 hr2 hw hz hWz
  obtain ⟨⟨c0, c1, c2, f0, f1, f2⟩, c3, c4, f3, f4⟩ := KC2.out
  go_upto_region 4 with fail
  try rw [HW2.out]
  go_wp2_with fail
  clear c0 c1 c2 f0 f1 f2 c3 c4 f3 f4
  refine (normal_bad none 0 0 [] 0 0 ⟨by omega, by omega⟩ ⟨by omega, by omega⟩ (by decide) _ (rowZ_none _)).mono ?_
  rintro e v2 ⟨rfl, hb2⟩
  have HB3 := Lib.hid ((HB2.out.trans (hb2.mono HB2.out.size)).alloc (Nat.le_trans HB2.out.size hb2.size) (.cells #[.slice none 0 0, .int .i64 0, .int .i64 0] 24))
  clear hb2
  go_wp2_with fail
  go_ret
  exact ⟨rfl, HB3.out⟩

set_option maxRecDepth 100000 in
set_option maxHeartbeats 3200000 in
theorem awake7 (w : World) : Calls Try.prog 14 #[] w (Says (.bool true) w) := by
  obtain ⟨l1, l2, l3⟩ := lits7 w
  have Xf := Lib.hid l1
  have Xg := Lib.hid l2
  have HB := Lib.hid l3
  clear l1 l2 l3
  go_enter Try.func14, Try.ntmps14
  go_wp2_with fail
  generalize ((((w.alloc (.cells #[.int .i64 0] 3)).alloc (.cells #[.int .i64 0] 3)).alloc (.cells #[.slice (some ⟨w.heap.size, 0, none⟩) 1 1, .int .i64 1, .int .i64 3] 24)).alloc (.cells #[.slice (some ⟨w.heap.size + 1, 0, none⟩) 1 1, .int .i64 1, .int .i64 5] 24)) = w0 at Xf Xg HB ⊢
  refine ((cof_ok (some ⟨w.heap.size, 0, none⟩) 1 1 [0] 1 3 e0_good (some ⟨w.heap.size + 1, 0, none⟩) 1 1 [0] 1 5 e5_good 1 (lcm_one e0_good e5_good) (by omega) _ Xf.out.row Xg.out.row).mono fun _ _ h => h.ok ex_can).mono ?_
  rintro e v1 ⟨a1, n1, cap1, z1, p1, i1, rfl, hb, hr, hf, hx⟩
  obtain ⟨w1, hw⟩ : ∃ W, v1.alloc (.cells #[.slice a1 n1 cap1, .int .i64 p1, .int .i64 i1] 24) = W := ⟨_, rfl⟩
  have hz : Below w0.heap.size w0 w1 := by rw [← hw]; exact hb.trans ((below_box _).mono hb.size)
  have Xf_1 := Lib.hid (Xf.out.under hz)
  have Xg_1 := Lib.hid (Xg.out.under hz)
  have HB_1 := Lib.hid (HB.out.trans (hz.mono HB.out.size))
  have Xh_1 := Lib.hid (show Bx w1 v1.heap.size a1 n1 cap1 p1 i1 z1 by rw [← hw]; exact Bx.new hr)
  have HFh := Lib.hid (show EForm z1 p1 i1 (eC [0] 1 3) from ex_conv ▸ hf)
  have HW1 := Lib.hid hw
  clear hb hr hf hx hz hw
  obtain ⟨c0, c1, c2, c3, c4, c5⟩ := Xf_1.out.box
  obtain ⟨d0, d1, d2, d3, d4, d5⟩ := Xg_1.out.box
  go_upto_region 3 with fail
  try rw [HW1.out]
  go_wp2_with fail
  clear c0 c1 c2 c3 c4 c5 d0 d1 d2 d3 d4 d5
  refine (prove_ok (some ⟨w.heap.size, 0, none⟩) 1 1 [0] 1 3 e0_good (some ⟨w.heap.size + 1, 0, none⟩) 1 1 [0] 1 5 e5_good 1 (lcm_one e0_good e5_good) (by omega) _ Xf_1.out.row Xg_1.out.row).mono ?_
  rintro e v2 (⟨a, n, cap, hs, r, knc, F, ab, N, A, y1, q1, j1, y2, q2, j2, rfl, hb, hr, hra, hf, hn1, hn2, hLL, hF, hN, hA, hx⟩ | ⟨_, _, hno⟩)
  rotate_left
  · exact absurd ex_can hno
  obtain ⟨w2, hw⟩ : ∃ W, v2.alloc (.cells #[.slice a n cap, .int .i64 r, .int .i64 knc, .int .i64 F, .slice (some ⟨ab, 0, none⟩) N N] 40) = W := ⟨_, rfl⟩
  have hz2 : Below v2.heap.size v2 w2 := by rw [← hw]; exact below_box _
  have hz : Below w1.heap.size w1 w2 := hb.trans (hz2.mono hb.size)
  have Xf_2 := Lib.hid (Xf_1.out.under hz)
  have Xg_2 := Lib.hid (Xg_1.out.under hz)
  have Xh_2 := Lib.hid (Xh_1.out.under hz)
  have HB_2 := Lib.hid (HB_1.out.trans (hz.mono HB_1.out.size))
  have XC_2 := Lib.hid (show Cert5 w2 v2.heap.size (.slice a n cap) (.int .i64 r) (.int .i64 knc) (.int .i64 F) (.slice (some ⟨ab, 0, none⟩) N N) by rw [← hw]; exact cert5_new v2 _ _ _ _ _ _)
  have RC_2 := Lib.hid (And.intro (hr.under hz2) (hra.under hz2))
  have HCR := Lib.hid (And.intro hf (And.intro (And.intro hn1 hn2) (And.intro hLL (And.intro hF (And.intro hN hA)))))
  have HW2 := Lib.hid hw
  clear hb hr hra hf hn1 hn2 hLL hF hN hA hx hz hz2 hw
  obtain ⟨c0, c1, c2, c3, c4, c5⟩ := Xf_2.out.box
  obtain ⟨d0, d1, d2, d3, d4, d5⟩ := Xg_2.out.box
  obtain ⟨e0, e1, e2, e3, e4, e5⟩ := Xh_2.out.box
  go_upto_region 4 with fail
  try rw [HW2.out]
  go_wp2_with fail
  clear c0 c1 c2 c3 c4 c5 d0 d1 d2 d3 d4 d5 e0 e1 e2 e3 e4 e5
  refine (same_at HFh.out ex_line _ Xh_2.out.row Xf_2.out.row).mono ?_
  rintro e w3 ⟨rfl, hb⟩
  have Xf_3 := Lib.hid (Xf_2.out.under hb)
  have Xg_3 := Lib.hid (Xg_2.out.under hb)
  have HB_3 := Lib.hid (HB_2.out.trans (hb.mono HB_2.out.size))
  have XC_3 := Lib.hid (XC_2.out.below hb)
  have RC_3 := Lib.hid (And.intro (RC_2.out.1.under hb) (RC_2.out.2.under hb))
  clear hb
  obtain ⟨c0, c1, c2, c3, c4, c5⟩ := Xf_3.out.box
  obtain ⟨d0, d1, d2, d3, d4, d5⟩ := Xg_3.out.box
  obtain ⟨⟨k0, k1, k2, k3, k4, k5⟩, k6, k7, k8, k9⟩ := XC_3.out
  go_wp2_with fail
  clear c0 c1 c2 c3 c4 c5 d0 d1 d2 d3 d4 d5 k0 k1 k2 k3 k4 k5 k6 k7 k8 k9
  refine (check_ok (some ⟨w.heap.size, 0, none⟩) 1 1 [0] 1 3 e0_good (some ⟨w.heap.size + 1, 0, none⟩) 1 1 [0] 1 5 e5_good 1 (by omega) HCR.out.2.1.1 HCR.out.2.1.2 HCR.out.2.2.1 a n cap hs r knc F ab N A HCR.out.1 HCR.out.2.2.2.1 HCR.out.2.2.2.2.1 HCR.out.2.2.2.2.2 _ Xf_3.out.row Xg_3.out.row RC_3.out.1 RC_3.out.2).mono ?_
  rintro e w4 ⟨rfl, hb⟩
  have Xf_4 := Lib.hid (Xf_3.out.under hb)
  have Xg_4 := Lib.hid (Xg_3.out.under hb)
  have HB_4 := Lib.hid (HB_3.out.trans (hb.mono HB_3.out.size))
  clear hb
  obtain ⟨c0, c1, c2, c3, c4, c5⟩ := Xf_4.out.box
  obtain ⟨d0, d1, d2, d3, d4, d5⟩ := Xg_4.out.box
  go_wp2_with fail
  clear c0 c1 c2 c3 c4 c5 d0 d1 d2 d3 d4 d5
  refine (check_zero (some ⟨w.heap.size, 0, none⟩) 1 1 [0] 1 3 e0_good (some ⟨w.heap.size + 1, 0, none⟩) 1 1 [0] 1 5 e5_good 1 (lcm_one e0_good e5_good) (by omega) _ Xf_4.out.row Xg_4.out.row).mono ?_
  rintro e w5 ⟨rfl, hb⟩
  have HB_5 := Lib.hid (HB_4.out.trans (hb.mono HB_4.out.size))
  clear hb
  go_wp2_with fail
  go_ret
  exact ⟨rfl, HB_5.out⟩

section
variable (a1 : Option Addr) (n1 cap1 : Nat) (z1 : List Int) (p1 : Nat) (i1 : Int) (g1 : Good z1 p1 i1) (a2 : Option Addr) (n2 cap2 : Nat) (z2 : List Int) (p2 : Nat) (i2 : Int) (g2 : Good z2 p2 i2) (h1 : Day (eC z1 p1 i1)) (h2 : Day (eC z2 p2 i2))
    (w : World) (r1 : RowZ w a1 n1 cap1 z1) (r2 : RowZ w a2 n2 cap2 z2)
include g1 g2 h1 h2 r1 r2
theorem cof_day : Calls Try.prog 22 #[curV a1 n1 cap1 p1 i1, curV a2 n2 cap2 p2 i2] w (GivesE (eConv z1 p1 i1 z2 p2 i2) w) := by
  obtain ⟨L, hL, hl⟩ := lcm_day g1 g2 h1 h2
  exact cof_ok a1 n1 cap1 z1 p1 i1 g1 a2 n2 cap2 z2 p2 i2 g2 L hl hL w r1 r2
end


end Go.Proofs.Ytladmpoopfabdaa
