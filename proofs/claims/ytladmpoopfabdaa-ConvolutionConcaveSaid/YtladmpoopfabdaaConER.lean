/- Of, Prove and Check of the convolution. By the verifier's side. | Check: its tests, and that it accepts what Prove returns. By the verifier's side. | Check of no certificate; the chapter's example; curves that are periodic by 24 ticks in the end. By the verifier's side. | The document's Minimum by its meaning. By the verifier's side. | The document's Later, Line and Flat. By the verifier's side. | Mathematics of the convolution of lines, without the program. By the verifier's side. -/
import Derived.Test.YtladmpoopfabdaaConAD
import Derived.Test.YtladmpoopfabdaaR5D
import Derived.Test.YtladmpoopfabdaaCurX
import Derived.Test.YtladmpoopfabdaaPwS
import Derived.Test.YtladmpoopfabdaaAppK
import Derived.Test.YtladmpoopfabdaaConMN
namespace Go.Proofs.Ytladmpoopfabdaa
open Go.RowKit
set_option linter.unusedSimpArgs false
set_option linter.unusedVariables false

set_option maxRecDepth 100000 in
set_option maxHeartbeats 3200000 in
theorem cof_ok (a1 : Option Addr) (n1 cap1 : Nat) (z1 : List Int) (p1 : Nat) (i1 : Int) (g1 : Good z1 p1 i1) (a2 : Option Addr) (n2 cap2 : Nat) (z2 : List Int) (p2 : Nat) (i2 : Int) (g2 : Good z2 p2 i2) (L : Nat) (hL : LcmN z1 p1 i1 z2 p2 i2 L) (hL2 : L ≤ 120) (w : World) (h1 : RowZ w a1 n1 cap1 z1) (h2 : RowZ w a2 n2 cap2 z2) :
    Calls Try.prog 22 #[curV a1 n1 cap1 p1 i1, curV a2 n2 cap2 p2 i2] w (GivesE (eConv z1 p1 i1 z2 p2 i2) w) := by
  obtain ⟨y1, q1, j1, y2, q2, j2, hn1, hn2, hLL⟩ := hL
  have k1 := hn1.good g1
  have k2 := hn2.good g2
  have hM := (lcm_of k1.p1 k2.p1 hLL).mult
  have HE := Lib.hid (show eConv y1 q1 j1 y2 q2 j2 = eConv z1 p1 i1 z2 p2 i2 by unfold eConv; rw [funext (hn1.eform g1).2.1, funext (hn2.eform g2).2.1])
  have HG := Lib.hid (And.intro g1 g2)
  have HK := Lib.hid (And.intro k1 k2)
  have HN := Lib.hid (And.intro hn1 hn2)
  have HLL := Lib.hid hLL
  have HM := Lib.hid hM
  obtain ⟨W, hW⟩ : ∃ W, ((w.alloc (.cells #[.slice a1 n1 cap1, .int .i64 p1, .int .i64 i1] 24)).alloc (.cells #[.slice a2 n2 cap2, .int .i64 p2, .int .i64 i2] 24)).alloc (.cells #[.slice none 0 0, .int .i64 0, .int .i64 0] 24) = W := ⟨_, rfl⟩
  obtain ⟨⟨hB, hWs⟩, m1, m2, mr⟩ := boxesB w a1 n1 cap1 p1 i1 a2 n2 cap2 p2 i2 hW
  have HB := Lib.hid hB
  have KR := Lib.hid mr
  have HR := Lib.hid (And.intro (h1.under hB) (h2.under hB))
  have HWS := Lib.hid hWs
  have HW := Lib.hid hW
  obtain ⟨c0, c1, c2, f0, f1, f2⟩ := m1
  obtain ⟨d0, d1, d2, e0, e1, e2⟩ := m2
  clear g1 g2 hn1 hn2 hLL hM k1 k2 h1 h2 hB mr hWs hW
  go_enter Try.func22, Try.ntmps22
  go_wp2_with fail
  try rw [HW.out]
  clear c0 c1 c2 f0 f1 f2 d0 d1 d2 e0 e1 e2
  refine (paired_ok a1 n1 cap1 z1 p1 i1 HG.out.1 a2 n2 cap2 z2 p2 i2 HG.out.2 HN.out.1 HN.out.2 L HLL.out hL2 _ HR.out.1 HR.out.2).mono ?_
  rintro e v1 ⟨la, lb, rfl, hb, hr1, hr2⟩
  obtain ⟨W2, hw⟩ : ∃ W2, v1.alloc (.cells #[.slice (some ⟨la, 0, none⟩) 1160 1160, .int .i64 (y1.length - q1 : Nat), .int .i64 (growI y1 q1 j1 L), .slice (some ⟨lb, 0, none⟩) 1160 1160, .int .i64 (y2.length - q2 : Nat), .int .i64 (growI y2 q2 j2 L), .int .i64 L] 68) = W2 := ⟨_, rfl⟩
  have hz : Below v1.heap.size v1 W2 := by rw [← hw]; exact (Below.refl _ _).alloc (Nat.le_refl _) _
  have hWz : Below W.heap.size W W2 := hb.trans (hz.mono hb.size)
  have KR2 := Lib.hid (KR.out.below hWz)
  have HB2 := Lib.hid (HB.out.trans (hWz.mono HB.out.size))
  have RR := Lib.hid (And.intro (hr1.under hz) (hr2.under hz))
  have HW2 := Lib.hid hw
  clear hb hr1 hr2 hw hz hWz
  go_wp2_with fail
  try rw [HW2.out]
  refine (pconv_ok la lb L y1 q1 j1 y2 q2 j2 HK.out.1 HK.out.2 HM.out hL2 _ RR.out.1 RR.out.2).mono ?_
  rintro e v2 ⟨hb2, ⟨a5, n5, cap5, zs5, p5, inc5, rfl, hr5, hf5, hx5⟩ | ⟨rfl, hno5⟩⟩
  · have HP := Lib.hid (GivesE.post (b := w.heap.size + 2) HB2.out (by omega) KR2.out.lt hb2 hr5 hx5 (HE.out ▸ hf5))
    obtain ⟨d0, d1, d2, e0, e1, e2⟩ := KR2.out.below hb2
    clear hb2 hr5 hf5 hx5
    go_wp2_with fail
    exact bodyPost_ret (v := .tuple #[curV a5 n5 cap5 p5 inc5, .int .i64 0]) (by simp [results, Try.results22, go_sem, d0, d1, d2]) rfl HP.out
  · have HP := Lib.hid (GivesE.postNo (b := w.heap.size + 2) HB2.out (by omega) hb2 (HE.out ▸ hno5))
    obtain ⟨d0, d1, d2, e0, e1, e2⟩ := KR2.out.below hb2
    clear hb2 hno5
    go_wp2_with fail
    exact bodyPost_ret (v := .tuple #[curV none 0 0 0 0, .int .i64 3]) (by simp [results, Try.results22, go_sem, d0, d1, d2]) rfl HP.out

/-- Block b holds a certificate. -/
structure Cert5 (w : World) (b : Nat) (x0 x1 x2 x3 x4 : Value) : Prop where
  lo : Cur3 w b x0 x1 x2
  c3 : w.cell? ⟨b, 3, none⟩ = some x3
  c4 : w.cell? ⟨b, 4, none⟩ = some x4
  f3 : w.frozen? ⟨b, 3, none⟩ = false
  f4 : w.frozen? ⟨b, 4, none⟩ = false
theorem Cert5.below {w w' : World} {b : Nat} {x0 x1 x2 x3 x4 : Value} (h : Cert5 w b x0 x1 x2 x3 x4) (hb : Below w.heap.size w w') : Cert5 w' b x0 x1 x2 x3 x4 :=
  ⟨h.lo.below hb, (hb.cell (p := ⟨b, 3, none⟩) h.lo.lt).trans h.c3, (hb.cell (p := ⟨b, 4, none⟩) h.lo.lt).trans h.c4, (hb.frozen (p := ⟨b, 3, none⟩) h.lo.lt).trans h.f3, (hb.frozen (p := ⟨b, 4, none⟩) h.lo.lt).trans h.f4⟩
theorem cert5_new (w : World) (x0 x1 x2 x3 x4 : Value) (t : TypeId) : Cert5 (w.alloc (.cells #[x0, x1, x2, x3, x4] t)) w.heap.size x0 x1 x2 x3 x4 :=
  ⟨⟨by go_simp, by go_simp, by go_simp, by go_simp, by go_simp, by go_simp⟩, by go_simp, by go_simp, by go_simp, by go_simp⟩

/-- The certificate, as it is handed on. -/
abbrev certV (a : Option Addr) (n cap : Nat) (p inc : Int) (F : Nat) (ab : Nat) (N : Nat) : Value :=
  .agg #[.slice a n cap, .int .i64 p, .int .i64 inc, .int .i64 F, .slice (some ⟨ab, 0, none⟩) N N]
def GivesCert (z1 : List Int) (p1 : Nat) (i1 : Int) (z2 : List Int) (p2 : Nat) (i2 : Int) (L : Nat) (w : World) (e : Ending) (w' : World) : Prop :=
  ∃ (a : Option Addr) (n cap : Nat) (hs : List Int) (r : Nat) (knc : Int) (F ab N : Nat) (A : Nat → Nat) (y1 : List Int) (q1 : Nat) (j1 : Int) (y2 : List Int) (q2 : Nat) (j2 : Int),
    e = .returned (.tuple #[certV a n cap r knc F ab N, .int .i64 0]) ∧ Below w.heap.size w w' ∧ RowZ w' a n cap hs ∧ RowF w' ab N (fun i => ((A i : Nat) : Int)) ∧ EForm hs r knc (eConv z1 p1 i1 z2 p2 i2) ∧ NormC z1 p1 i1 y1 q1 j1 ∧ NormC z2 p2 i2 y2 q2 j2 ∧ (q1 / Nat.gcd q1 q2 * q2 = L) ∧
    F = hori (y1.length - q1) (y2.length - q2) (hs.length - r) L ∧ N = F + L ∧ (∀ t, t < N → AttP y1 q1 j1 y2 q2 j2 hs r knc L (A t) t) ∧ ∀ x, a = some x → w.heap.size ≤ x.block

/-- A tick attains a value: the meaning and what the program tests. -/
theorem attP_iff {y1 : List Int} {q1 : Nat} {j1 : Int} {y2 : List Int} {q2 : Nat} {j2 : Int} {hs : List Int} {r : Nat} {knc : Int} {L s t H : Nat} (hH : hori (y1.length - q1) (y2.length - q2) (hs.length - r) L = H) :
    AttP y1 q1 j1 y2 q2 j2 hs r knc L s t ↔ s ≤ t ∧ AttG (y1.length - q1) (growI y1 q1 j1 L) (y2.length - q2) (growI y2 q2 j2 L) H (growI hs r knc L) (atC y1 q1 j1) (atC y2 q2 j2) (atC hs r knc) s t := by
  subst hH; exact Iff.rfl

theorem least_att {P : Nat → Nat → Prop} {N : Nat} (h : ∀ t, t < N → ∃ s, s ≤ t ∧ P s t) : ∃ A : Nat → Nat, ∀ t, t < N → A t ≤ t ∧ P (A t) t ∧ ∀ s, s < A t → ¬ P s t := by
  classical
  have hl : ∀ t, t < N → ∃ s, (s ≤ t ∧ P s t) ∧ ∀ u, u < s → ¬ P u t := fun t ht => by
    obtain ⟨s, hs, hp⟩ := h t ht
    induction s using Nat.strongRecOn with
    | _ s ih =>
      by_cases hx : ∃ u, u < s ∧ P u t
      · obtain ⟨u, hu, hpu⟩ := hx
        exact ih u hu (by omega) hpu
      · exact ⟨s, ⟨hs, hp⟩, fun u hu hpu => hx ⟨u, hu, hpu⟩⟩
  exact ⟨fun t => if ht : t < N then Classical.choose (hl t ht) else 0, fun t ht => by
    simp only [dif_pos ht]
    have := Classical.choose_spec (hl t ht)
    exact ⟨this.1.1, this.1.2, this.2⟩⟩

set_option maxRecDepth 100000 in
set_option maxHeartbeats 6400000 in
theorem prove_ok (a1 : Option Addr) (n1 cap1 : Nat) (z1 : List Int) (p1 : Nat) (i1 : Int) (g1 : Good z1 p1 i1) (a2 : Option Addr) (n2 cap2 : Nat) (z2 : List Int) (p2 : Nat) (i2 : Int) (g2 : Good z2 p2 i2) (L : Nat) (hL : LcmN z1 p1 i1 z2 p2 i2 L) (hL2 : L ≤ 120) (w : World) (h1 : RowZ w a1 n1 cap1 z1) (h2 : RowZ w a2 n2 cap2 z2) :
    Calls Try.prog 24 #[curV a1 n1 cap1 p1 i1, curV a2 n2 cap2 p2 i2] w fun e w' => GivesCert z1 p1 i1 z2 p2 i2 L w e w' ∨ (e = .returned (.tuple #[.agg #[.slice none 0 0, .int .i64 0, .int .i64 0, .int .i64 0, .slice none 0 0], .int .i64 3]) ∧ Below w.heap.size w w' ∧ ¬ ECan (eConv z1 p1 i1 z2 p2 i2)) := by
  obtain ⟨y1, q1, j1, y2, q2, j2, hn1, hn2, hLL⟩ := hL
  have k1 := hn1.good g1
  have k2 := hn2.good g2
  have hM := (lcm_of k1.p1 k2.p1 hLL).mult
  have HE := Lib.hid (show eConv y1 q1 j1 y2 q2 j2 = eConv z1 p1 i1 z2 p2 i2 by unfold eConv; rw [funext (hn1.eform g1).2.1, funext (hn2.eform g2).2.1])
  have HG := Lib.hid (And.intro g1 g2)
  have HK := Lib.hid (And.intro k1 k2)
  have HN := Lib.hid (And.intro hn1 hn2)
  have HLL := Lib.hid hLL
  have HM := Lib.hid hM
  obtain ⟨W, hW⟩ : ∃ W, ((w.alloc (.cells #[.slice a1 n1 cap1, .int .i64 p1, .int .i64 i1] 24)).alloc (.cells #[.slice a2 n2 cap2, .int .i64 p2, .int .i64 i2] 24)).alloc (.cells #[.slice none 0 0, .int .i64 0, .int .i64 0, .int .i64 0, .slice none 0 0] 40) = W := ⟨_, rfl⟩
  have hB : Below w.heap.size w W := by rw [← hW]; exact (((Below.refl _ _).alloc (Nat.le_refl _) _).alloc (by simp) _).alloc (by simp; omega) _
  have hWs : W.heap.size = w.heap.size + 3 := by rw [← hW]; simp
  have m1 : Cur3 W w.heap.size (.slice a1 n1 cap1) (.int .i64 p1) (.int .i64 i1) := by rw [← hW]; exact ((Cur3.new w _ _ _ _).alloc _).alloc _
  have m2 : Cur3 W (w.heap.size + 1) (.slice a2 n2 cap2) (.int .i64 p2) (.int .i64 i2) := by rw [← hW]; exact (Cur3.new2 w _ _ _ _ _).alloc _
  have mr : Cert5 W (w.heap.size + 2) (.slice none 0 0) (.int .i64 0) (.int .i64 0) (.int .i64 0) (.slice none 0 0) := by
    rw [← hW]
    have := cert5_new ((w.alloc (.cells #[.slice a1 n1 cap1, .int .i64 p1, .int .i64 i1] 24)).alloc (.cells #[.slice a2 n2 cap2, .int .i64 p2, .int .i64 i2] 24)) (.slice none 0 0) (.int .i64 0) (.int .i64 0) (.int .i64 0) (.slice none 0 0) 40
    simpa using this
  have HB := Lib.hid hB
  have KR := Lib.hid mr
  have HR := Lib.hid (And.intro (h1.under hB) (h2.under hB))
  have HWS := Lib.hid hWs
  have HW := Lib.hid hW
  obtain ⟨c0, c1, c2, f0, f1, f2⟩ := m1
  obtain ⟨d0, d1, d2, e0, e1, e2⟩ := m2
  clear g1 g2 hn1 hn2 hLL hM k1 k2 h1 h2 hB mr hWs hW
  go_enter Try.func24, Try.ntmps24
  go_wp2_with fail
  try rw [HW.out]
  clear c0 c1 c2 f0 f1 f2 d0 d1 d2 e0 e1 e2
  refine (paired_ok a1 n1 cap1 z1 p1 i1 HG.out.1 a2 n2 cap2 z2 p2 i2 HG.out.2 HN.out.1 HN.out.2 L HLL.out hL2 _ HR.out.1 HR.out.2).mono ?_
  rintro e v1 ⟨la, lb, rfl, hb, hr1, hr2⟩
  obtain ⟨W2, hw⟩ : ∃ W2, v1.alloc (.cells #[.slice (some ⟨la, 0, none⟩) 1160 1160, .int .i64 (y1.length - q1 : Nat), .int .i64 (growI y1 q1 j1 L), .slice (some ⟨lb, 0, none⟩) 1160 1160, .int .i64 (y2.length - q2 : Nat), .int .i64 (growI y2 q2 j2 L), .int .i64 L] 68) = W2 := ⟨_, rfl⟩
  have hz : Below v1.heap.size v1 W2 := by rw [← hw]; exact (Below.refl _ _).alloc (Nat.le_refl _) _
  have hWz : Below W.heap.size W W2 := hb.trans (hz.mono hb.size)
  have PB := Lib.hid (show PrB W2 v1.heap.size la (y1.length - q1) (growI y1 q1 j1 L) lb (y2.length - q2) (growI y2 q2 j2 L) L by rw [← hw]; exact pr7_new v1 _ _ _ _ _ _ _ _)
  have KR2 := Lib.hid (KR.out.below hWz)
  have HB2 := Lib.hid (HB.out.trans (hWz.mono HB.out.size))
  have RR := Lib.hid (And.intro (hr1.under hz) (hr2.under hz))
  have HW2 := Lib.hid hw
  have SZ1 := Lib.hid (show w.heap.size + 3 ≤ v1.heap.size by have := hb.size; have := HWS.out; omega)
  clear hb hr1 hr2 hw hz hWz
  go_wp2_with fail
  try rw [HW2.out]
  refine (pconv_ok la lb L y1 q1 j1 y2 q2 j2 HK.out.1 HK.out.2 HM.out hL2 _ RR.out.1 RR.out.2).mono ?_
  rintro e v2 ⟨hb2, ⟨a5, n5, cap5, zs5, p5, inc5, rfl, hr5, hf5, hx5⟩ | ⟨rfl, hno5⟩⟩
  · obtain ⟨W3, hw3⟩ : ∃ W3, v2.alloc (.cells #[.slice a5 n5 cap5, .int .i64 p5, .int .i64 inc5] 24) = W3 := ⟨_, rfl⟩
    have hz3 : Below v2.heap.size v2 W3 := by rw [← hw3]; exact (Below.refl _ _).alloc (Nat.le_refl _) _
    have hb3 : Below W2.heap.size W2 W3 := hb2.trans (hz3.mono hb2.size)
    have PB3 := Lib.hid (PB.out.below hb3)
    have KR3 := Lib.hid (KR2.out.below hb3)
    have HB3 := Lib.hid (HB2.out.trans (hb3.mono HB2.out.size))
    have RR3 := Lib.hid (And.intro (RR.out.1.under hb3) (RR.out.2.under hb3))
    have X3 := Lib.hid (show Bx W3 v2.heap.size a5 n5 cap5 p5 inc5 zs5 by rw [← hw3]; exact Bx.new hr5)
    have HW3 := Lib.hid hw3
    have HF := Lib.hid hf5
    have HX := Lib.hid (show ∀ x, a5 = some x → w.heap.size + 3 ≤ x.block from fun x hx => by have := hx5 x hx; have := SZ1.out; have := PB.out.lt; omega)
    obtain ⟨s5, hs5, hns5⟩ := norm_self hf5
    have HS5 := Lib.hid (And.intro (show zs5.length = (zs5.length - p5) + p5 by omega) hns5)
    have gp5 := hf5.1.p1
    have SZ2 := Lib.hid (show v1.heap.size < v2.heap.size by have := hb2.size; have := PB.out.lt; omega)
    clear hb2 hr5 hf5 hx5 hw3 hz3 hb3 hs5 hns5
    obtain ⟨⟨c0, c1, c2, f0, f1, f2⟩, c3, c4, c5, c6, f3, f4, f5, f6⟩ := PB3.out
    obtain ⟨d0, d1, d2, e0, e1, e2⟩ := X3.out.box
    go_upto_region 7 with fail
    try rw [HW3.out]
    go_wp2_with fail
    clear c0 c1 c2 f0 f1 f2 c3 c4 c5 c6 f3 f4 f5 f6 d0 d1 d2 e0 e1 e2
    refine (described_ok a5 n5 cap5 zs5 p5 inc5 HF.out.1 HS5.out.2 (zs5.length - p5) HS5.out.1 L hL2 (growI zs5 p5 inc5 L) rfl _ X3.out.row).mono ?_
    rintro e v3 ⟨lh, rfl, hb4, hlh, hr4⟩
    obtain ⟨W4, hw4⟩ : ∃ W4, v3.alloc (.cells #[.slice (some ⟨lh, 0, none⟩) 1160 1160, .int .i64 (zs5.length - p5 : Nat), .int .i64 (growI zs5 p5 inc5 L)] 66) = W4 := ⟨_, rfl⟩
    have hz4 : Below v3.heap.size v3 W4 := by rw [← hw4]; exact (Below.refl _ _).alloc (Nat.le_refl _) _
    have hb5 : Below W3.heap.size W3 W4 := hb4.trans (hz4.mono hb4.size)
    have PB4 := Lib.hid (PB3.out.below hb5)
    have KR4 := Lib.hid (KR3.out.below hb5)
    have HB4 := Lib.hid (HB3.out.trans (hb5.mono HB3.out.size))
    have RR4 := Lib.hid (And.intro (RR3.out.1.under hb5) (And.intro (RR3.out.2.under hb5) (hr4.under hz4)))
    have X4 := Lib.hid (X3.out.under hb5)
    have HC4 := Lib.hid (show Cur3 W4 v3.heap.size (.slice (some ⟨lh, 0, none⟩) 1160 1160) (.int .i64 (zs5.length - p5 : Nat)) (.int .i64 (growI zs5 p5 inc5 L)) by rw [← hw4]; exact Cur3.new v3 _ _ _ _)
    have HW4 := Lib.hid hw4
    clear hb4 hlh hr4 hw4 hz4 hb5
    obtain ⟨⟨c0, c1, c2, f0, f1, f2⟩, c3, c4, c5, c6, f3, f4, f5, f6⟩ := PB4.out
    obtain ⟨d0, d1, d2, e0, e1, e2⟩ := HC4.out
    have b1 : y1.length - q1 ≤ 400 := by have := HK.out.1.few; omega
    have b2 : y2.length - q2 ≤ 400 := by have := HK.out.2.few; omega
    have b3 : zs5.length - p5 ≤ 400 := by have := HF.out.1.few; omega
    obtain ⟨H, hH⟩ : ∃ H, hori (y1.length - q1) (y2.length - q2) (zs5.length - p5) L = H := ⟨_, rfl⟩
    have HHH := Lib.hid hH
    have hHb : H + L ≤ 1160 := by
      have := HK.out.1.few; have := HK.out.1.p1; have := HK.out.1.p3; have := HK.out.2.few; have := HK.out.2.p1; have := HK.out.2.p3; unfold hori at hH; omega
    clear hH
    go_upto_region 8 with fail
    try rw [HW4.out]
    go_wp2_with fail
    clear c0 c1 c2 f0 f1 f2 c3 c4 c5 c6 f3 f4 f5 f6 d0 d1 d2 e0 e1 e2
    refine (horizon_any la (y1.length - q1) (growI y1 q1 j1 L) lb (y2.length - q2) (growI y2 q2 j2 L) L lh (zs5.length - p5) (growI zs5 p5 inc5 L) (by omega) (by omega) (by omega) (by omega) H HHH.out _).mono ?_
    rintro e v4 ⟨rfl, hb6⟩
    have PB5 := Lib.hid (PB4.out.below hb6)
    have KR5 := Lib.hid (KR4.out.below hb6)
    have HB5 := Lib.hid (HB4.out.trans (hb6.mono HB4.out.size))
    have RR5 := Lib.hid (And.intro (RR4.out.1.under hb6) (And.intro (RR4.out.2.1.under hb6) (RR4.out.2.2.under hb6)))
    have X5 := Lib.hid (X4.out.under hb6)
    have HC5 := Lib.hid (HC4.out.below hb6)
    clear hb6
    obtain ⟨N, hN⟩ : ∃ N, H + L = N := ⟨_, rfl⟩
    have HNN := Lib.hid hN
    have hNi : (H : Int) + (L : Int) = (N : Int) := by omega
    have hNw : IntKind.i64.wrap (N : Int) = (N : Int) := IntWalk.i64_in _ ⟨by omega, by omega⟩
    obtain ⟨A, hA⟩ := least_att (P := AttG (y1.length - q1) (growI y1 q1 j1 L) (y2.length - q2) (growI y2 q2 j2 L) H (growI zs5 p5 inc5 L) (atC y1 q1 j1) (atC y2 q2 j2) (atC zs5 p5 inc5)) (N := N) (fun t ht => by
      obtain ⟨s, hs⟩ := att_ex HK.out.1 HK.out.2 HF.out HM.out hL2 (t := t) (by omega)
      exact ⟨s, (attP_iff HHH.out).1 hs⟩)
    have HA := Lib.hid hA
    have HHM := Lib.hid (show max (y1.length - q1 + (y2.length - q2)) (zs5.length - p5) + L = H from HHH.out)
    have LSZ := Lib.hid (show w.heap.size + 3 ≤ v4.heap.size by have := PB5.out.lt; have := SZ1.out; omega)
    have KS := Lib.hid (show ∀ u, Below v4.heap.size v4 u → (fun u => u.cell? ⟨v2.heap.size, 0, none⟩ = some (.slice a5 n5 cap5) ∧ u.cell? ⟨v2.heap.size, 1, none⟩ = some (.int .i64 p5) ∧ u.cell? ⟨v2.heap.size, 2, none⟩ = some (.int .i64 inc5) ∧ u.cell? ⟨v1.heap.size, 0, none⟩ = some (.slice (some ⟨la, 0, none⟩) 1160 1160) ∧ u.cell? ⟨v1.heap.size, 1, none⟩ = some (.int .i64 (y1.length - q1 : Nat)) ∧ u.cell? ⟨v1.heap.size, 2, none⟩ = some (.int .i64 (growI y1 q1 j1 L)) ∧ u.cell? ⟨v1.heap.size, 3, none⟩ = some (.slice (some ⟨lb, 0, none⟩) 1160 1160) ∧ u.cell? ⟨v1.heap.size, 4, none⟩ = some (.int .i64 (y2.length - q2 : Nat)) ∧ u.cell? ⟨v1.heap.size, 5, none⟩ = some (.int .i64 (growI y2 q2 j2 L)) ∧ u.cell? ⟨v1.heap.size, 6, none⟩ = some (.int .i64 L) ∧ u.cell? ⟨v3.heap.size, 0, none⟩ = some (.slice (some ⟨lh, 0, none⟩) 1160 1160) ∧ u.cell? ⟨v3.heap.size, 1, none⟩ = some (.int .i64 (zs5.length - p5 : Nat)) ∧ u.cell? ⟨v3.heap.size, 2, none⟩ = some (.int .i64 (growI zs5 p5 inc5 L)) ∧ Hid (Below v4.heap.size v4 u)) u from fun u hu => by
      have x := X5.out.under hu
      have p := PB5.out.below hu
      have h := HC5.out.below hu
      exact ⟨x.box.c0, x.box.c1, x.box.c2, p.lo.c0, p.lo.c1, p.lo.c2, p.c3, p.c4, p.c5, p.c6, h.c0, h.c1, h.c2, hu⟩)
    clear hN hA
    go_upto_region 9 with fail
    refine wp_region_keeps (fun u => u.cell? ⟨v2.heap.size, 0, none⟩ = some (.slice a5 n5 cap5) ∧ u.cell? ⟨v2.heap.size, 1, none⟩ = some (.int .i64 p5) ∧ u.cell? ⟨v2.heap.size, 2, none⟩ = some (.int .i64 inc5) ∧ u.cell? ⟨v1.heap.size, 0, none⟩ = some (.slice (some ⟨la, 0, none⟩) 1160 1160) ∧ u.cell? ⟨v1.heap.size, 1, none⟩ = some (.int .i64 (y1.length - q1 : Nat)) ∧ u.cell? ⟨v1.heap.size, 2, none⟩ = some (.int .i64 (growI y1 q1 j1 L)) ∧ u.cell? ⟨v1.heap.size, 3, none⟩ = some (.slice (some ⟨lb, 0, none⟩) 1160 1160) ∧ u.cell? ⟨v1.heap.size, 4, none⟩ = some (.int .i64 (y2.length - q2 : Nat)) ∧ u.cell? ⟨v1.heap.size, 5, none⟩ = some (.int .i64 (growI y2 q2 j2 L)) ∧ u.cell? ⟨v1.heap.size, 6, none⟩ = some (.int .i64 L) ∧ u.cell? ⟨v3.heap.size, 0, none⟩ = some (.slice (some ⟨lh, 0, none⟩) 1160 1160) ∧ u.cell? ⟨v3.heap.size, 1, none⟩ = some (.int .i64 (zs5.length - p5 : Nat)) ∧ u.cell? ⟨v3.heap.size, 2, none⟩ = some (.int .i64 (growI zs5 p5 inc5 L)) ∧ Hid (Below v4.heap.size v4 u)) 10 2 (by kernel_rfl) (by kernel_rfl) (KS.out _ (Below.refl _ _).drew) (fun hHeld0 => ?_)
    refine wpAnyK_take (i := 0) (v := ?_) rfl (by kernel_rfl) (fun _ _ _ h => h) (Or.inl ⟨by rfl, ?_⟩) (by assumption) ?_
    rotate_left
    · (intro w hSw; (try dsimp only at hSw); go_simp; try with_reducible rfl)
    try simp only [Act.put, List.getElem_toArray, List.getElem_cons_zero, List.getElem_cons_succ, List.setIfInBounds_toArray, List.set_cons_zero, List.set_cons_succ]
    refine wpAnyK_take (i := 1) (v := ?_) rfl (by kernel_rfl) (fun _ _ _ h => h) (Or.inl ⟨by rfl, ?_⟩) (by assumption) ?_
    rotate_left
    · (intro w hSw; (try dsimp only at hSw); go_simp; try with_reducible rfl)
    try simp only [Act.put, List.getElem_toArray, List.getElem_cons_zero, List.getElem_cons_succ, List.setIfInBounds_toArray, List.set_cons_zero, List.set_cons_succ]
    refine wpAnyK_take (i := 2) (v := ?_) rfl (by kernel_rfl) (fun _ _ _ h => h) (Or.inl ⟨by rfl, ?_⟩) (by assumption) ?_
    rotate_left
    · (intro w hSw; (try dsimp only at hSw); go_simp; try with_reducible rfl)
    try simp only [Act.put, List.getElem_toArray, List.getElem_cons_zero, List.getElem_cons_succ, List.setIfInBounds_toArray, List.set_cons_zero, List.set_cons_succ]
    refine wpAnyK_take (i := 3) (v := ?_) rfl (by kernel_rfl) (fun _ _ _ h => h) (Or.inl ⟨by rfl, ?_⟩) (by assumption) ?_
    rotate_left
    · (intro w hSw; (try dsimp only at hSw); go_simp; try with_reducible rfl)
    try simp only [Act.put, List.getElem_toArray, List.getElem_cons_zero, List.getElem_cons_succ, List.setIfInBounds_toArray, List.set_cons_zero, List.set_cons_succ]
    refine wpAnyK_take (i := 4) (v := ?_) rfl (by kernel_rfl) (fun _ _ _ h => h) (Or.inl ⟨by rfl, ?_⟩) (by assumption) ?_
    rotate_left
    · (intro w hSw; (try dsimp only at hSw); go_simp; try with_reducible rfl)
    try simp only [Act.put, List.getElem_toArray, List.getElem_cons_zero, List.getElem_cons_succ, List.setIfInBounds_toArray, List.set_cons_zero, List.set_cons_succ]
    refine wpAnyK_take (i := 5) (v := ?_) rfl (by kernel_rfl) (fun _ _ _ h => h) (Or.inl ⟨by rfl, ?_⟩) (by assumption) ?_
    rotate_left
    · (intro w hSw; (try dsimp only at hSw); go_simp; try with_reducible rfl)
    try simp only [Act.put, List.getElem_toArray, List.getElem_cons_zero, List.getElem_cons_succ, List.setIfInBounds_toArray, List.set_cons_zero, List.set_cons_succ]
    refine wpAnyK_take (i := 6) (v := ?_) rfl (by kernel_rfl) (fun _ _ _ h => h) (Or.inl ⟨by rfl, ?_⟩) (by assumption) ?_
    rotate_left
    · (intro w hSw; (try dsimp only at hSw); go_simp; try with_reducible rfl)
    try simp only [Act.put, List.getElem_toArray, List.getElem_cons_zero, List.getElem_cons_succ, List.setIfInBounds_toArray, List.set_cons_zero, List.set_cons_succ]
    refine wpAnyK_take (i := 7) (v := ?_) rfl (by kernel_rfl) (fun _ _ _ h => h) (Or.inl ⟨by rfl, ?_⟩) (by assumption) ?_
    rotate_left
    · (intro w hSw; (try dsimp only at hSw); go_simp; try with_reducible rfl)
    try simp only [Act.put, List.getElem_toArray, List.getElem_cons_zero, List.getElem_cons_succ, List.setIfInBounds_toArray, List.set_cons_zero, List.set_cons_succ]
    refine wpAnyK_step (i := 8) rfl (by kernel_rfl) (fun K hK => ?_)
    go_simp
    with_reducible refine (splits_ok la (y1.length - q1) (growI y1 q1 j1 L) lb (y2.length - q2) (growI y2 q2 j2 L) L lh (zs5.length - p5) (growI zs5 p5 inc5 L) (atC y1 q1 j1) (atC y2 q2 j2) (atC zs5 p5 inc5) N (by omega) (by omega) (by omega) (by omega) (by omega) (fun t ht => at_mid2 HK.out.1 (by omega)) (fun t ht => at_mid2 HK.out.2 (by omega)) H HHM.out A HA.out _ (RR5.out.1.under (Below.refl _ _).drew) (RR5.out.2.1.under (Below.refl _ _).drew) (RR5.out.2.2.under (Below.refl _ _).drew)).mono ?_
    rintro e v5 ⟨ab, rfl, hb7, hab, hrab⟩
    have HAB := Lib.hid (show Below v4.heap.size v4 v5 ∧ v4.heap.size ≤ ab ∧ RowF v5 ab N (fun i => ((A i : Nat) : Int)) from ⟨(Below.refl v4.heap.size v4).drew.trans hb7, hab, hrab⟩)
    clear hb7 hab hrab
    refine hK.out _ _ (KS.out _ HAB.out.1) (fun hHeld1 => ?_)
    clear hK K hHeld0
    try simp only [Act.put, List.getElem_toArray, List.getElem_cons_zero, List.getElem_cons_succ, List.setIfInBounds_toArray, List.set_cons_zero, List.set_cons_succ]
    refine wpAnyK_take (i := 9) (v := ?_) rfl (by kernel_rfl) (fun _ _ _ h => h) (Or.inl ⟨by rfl, ?_⟩) (by assumption) ?_
    rotate_left
    · (intro w hSw; (try dsimp only at hSw); go_simp; try with_reducible rfl)
    try simp only [Act.put, List.getElem_toArray, List.getElem_cons_zero, List.getElem_cons_succ, List.setIfInBounds_toArray, List.set_cons_zero, List.set_cons_succ]
    refine wpAnyK_done (by kernel_rfl) ?_
    simp only [List.drop_succ_cons, List.drop_zero]
    have HP := Lib.hid (show GivesCert z1 p1 i1 z2 p2 i2 L w (.returned (.tuple #[certV a5 n5 cap5 p5 inc5 H ab N, .int .i64 0])) (((((v5.setCell ⟨w.heap.size + 2, 0, none⟩ (.slice a5 n5 cap5)).setCell ⟨w.heap.size + 2, 1, none⟩ (.int .i64 p5)).setCell ⟨w.heap.size + 2, 2, none⟩ (.int .i64 inc5)).setCell ⟨w.heap.size + 2, 3, none⟩ (.int .i64 H)).setCell ⟨w.heap.size + 2, 4, none⟩ (.slice (some ⟨ab, 0, none⟩) N N)) by
      have hl := LSZ.out
      have hab' := HAB.out.2.1
      have ha : ∀ x, a5 = some x → 1 ≤ n5 → x.block ≠ w.heap.size + 2 := fun x hx _ => by have := HX.out x hx; omega
      refine ⟨a5, n5, cap5, zs5, p5, inc5, H, ab, N, A, y1, q1, j1, y2, q2, j2, rfl, ?_, ?_, ?_, HE.out ▸ HF.out, HN.out.1, HN.out.2, HLL.out, HHH.out.symm, HNN.out.symm, fun t ht => (attP_iff HHH.out).2 ⟨(HA.out t ht).1, (HA.out t ht).2.1⟩, fun x hx => by have := HX.out x hx; omega⟩
      · exact (((below_set3 (HB5.out.trans (HAB.out.1.mono HB5.out.size)) (by omega) _ _ _).setCell (p := ⟨w.heap.size + 2, 3, none⟩) (by show w.heap.size ≤ w.heap.size + 2; omega) _).setCell (p := ⟨w.heap.size + 2, 4, none⟩) (by show w.heap.size ≤ w.heap.size + 2; omega) _)
      · exact (((((X5.out.row.under HAB.out.1).store ha _ _).store ha _ _).store ha _ _).store ha _ _).store ha _ _
      · exact ((((HAB.out.2.2.other (by omega) _ _).other (by omega) _ _).other (by omega) _ _).other (by omega) _ _).other (by omega) _ _)
    obtain ⟨⟨c0, c1, c2, f0, f1, f2⟩, c3, c4, f3, f4⟩ := KR5.out.below HAB.out.1
    clear hHeld1
    go_wp2_with fail
    exact bodyPost_ret (v := .tuple #[certV a5 n5 cap5 p5 inc5 H ab N, .int .i64 0]) (by simp [results, Try.results24, go_sem, c0, c1, c2, c3, c4]) rfl (.inl HP.out)
  · have HNE := Lib.hid (show ¬ ECan (eConv z1 p1 i1 z2 p2 i2) from HE.out ▸ hno5)
    obtain ⟨W3, hw3⟩ : ∃ W3, v2.alloc (.cells #[.slice none 0 0, .int .i64 0, .int .i64 0] 24) = W3 := ⟨_, rfl⟩
    have hz3 : Below v2.heap.size v2 W3 := by rw [← hw3]; exact (Below.refl _ _).alloc (Nat.le_refl _) _
    have hb3 : Below W2.heap.size W2 W3 := hb2.trans (hz3.mono hb2.size)
    have KR3 := Lib.hid (KR2.out.below hb3)
    have HB3 := Lib.hid (HB2.out.trans (hb3.mono HB2.out.size))
    have HW3 := Lib.hid hw3
    clear hb2 hno5 hw3 hz3 hb3
    go_upto_region 6 with fail
    try rw [HW3.out]
    have HP := Lib.hid (show Below w.heap.size w (((((W3.setCell ⟨w.heap.size + 2, 0, none⟩ (.slice none 0 0)).setCell ⟨w.heap.size + 2, 1, none⟩ (.int .i64 0)).setCell ⟨w.heap.size + 2, 2, none⟩ (.int .i64 0)).setCell ⟨w.heap.size + 2, 3, none⟩ (.int .i64 0)).setCell ⟨w.heap.size + 2, 4, none⟩ (.slice none 0 0)) from (((below_set3 HB3.out (by omega) _ _ _).setCell (p := ⟨w.heap.size + 2, 3, none⟩) (by show w.heap.size ≤ w.heap.size + 2; omega) _).setCell (p := ⟨w.heap.size + 2, 4, none⟩) (by show w.heap.size ≤ w.heap.size + 2; omega) _))
    obtain ⟨⟨c0, c1, c2, f0, f1, f2⟩, c3, c4, f3, f4⟩ := KR3.out
    go_wp2_with fail
    exact bodyPost_ret (v := .tuple #[.agg #[.slice none 0 0, .int .i64 0, .int .i64 0, .int .i64 0, .slice none 0 0], .int .i64 3]) (by simp [results, Try.results24, go_sem, c0, c1, c2, c3, c4]) rfl (.inr ⟨rfl, HP.out, HNE.out⟩)


end Go.Proofs.Ytladmpoopfabdaa

namespace Go.Proofs.Ytladmpoopfabdaa
open Go.RowKit
set_option linter.unusedSimpArgs false
set_option linter.unusedVariables false

theorem below_drew1 {w v : World} (h : Below w.drew.heap.size w.drew v) : Below w.heap.size w v := (Below.refl w.heap.size w).drew.trans h

set_option maxHeartbeats 1600000 in
theorem check1 (cb rb : Nat) (a : Option Addr) (n cap : Nat) (r : Nat) (knc : Int) (F ab N : Nat) (a5 : Option Addr) (n5 cap5 : Nat) (hs : List Int) (w : World) (hc : Cert5 w cb (.slice a n cap) (.int .i64 r) (.int .i64 knc) (.int .i64 F) (.slice (some ⟨ab, 0, none⟩) N N)) (hr : Cur3 w rb (.slice a5 n5 cap5) (.int .i64 r) (.int .i64 knc)) (r1 : RowZ w a n cap hs) (r2 : RowZ w a5 n5 cap5 hs) :
    Calls Try.prog 69 #[.pointer (some ⟨cb, 0, none⟩), .pointer (some ⟨rb, 0, none⟩)] w (Says (.bool true) w) := by
  obtain ⟨⟨c0, c1, c2, f0, f1, f2⟩, c3, c4, f3, f4⟩ := hc
  obtain ⟨d0, d1, d2, g0, g1, g2⟩ := hr
  have HR := Lib.hid (And.intro r1 r2)
  have HS := Lib.hid (show sameB hs r knc hs r knc = true from sameB_iff.2 ⟨rfl, rfl, rfl⟩)
  clear r1 r2
  go_enter Try.func69, Try.ntmps69
  go_wp2_with fail
  refine (same_any a n cap hs r knc a5 n5 cap5 hs r knc true HS.out _ HR.out.1 HR.out.2).mono ?_
  rintro e w1 ⟨rfl, hb⟩
  have HB := Lib.hid hb
  clear hb
  go_wp2_with fail
  go_ret
  exact ⟨rfl, HB.out⟩

set_option maxRecDepth 100000 in
set_option maxHeartbeats 1600000 in
theorem check2 (pb rb hb : Nat) (la S1 : Nat) (G1 : Int) (lb S2 : Nat) (G2 : Int) (L : Nat) (lh Sh : Nat) (Gh : Int) (F1 F2 : Nat → Int) (a5 : Option Addr) (n5 cap5 : Nat) (r : Nat) (knc : Int) (hr1 : 1 ≤ r) (hr2 : r ≤ 120) (hL : L ≤ 120) (hd : L % r = 0) (hm1 : Mid (F1 0)) (hm2 : Mid (F2 0)) (hg : (if plI (F1 0) (F2 0) = infV then infV else min G1 G2) = Gh)
    (w : World) (hp : PrB w pb la S1 G1 lb S2 G2 L) (hr : Cur3 w rb (.slice a5 n5 cap5) (.int .i64 r) (.int .i64 knc)) (hh : Cur3 w hb (.slice (some ⟨lh, 0, none⟩) 1160 1160) (.int .i64 Sh) (.int .i64 Gh)) (r1 : RowF w la 1160 F1) (r2 : RowF w lb 1160 F2) :
    Calls Try.prog 71 #[.pointer (some ⟨pb, 0, none⟩), .pointer (some ⟨rb, 0, none⟩), .pointer (some ⟨hb, 0, none⟩)] w (Says (.bool true) w) := by
  have HP := Lib.hid hp
  have HH := Lib.hid hh
  have HR := Lib.hid (And.intro r1 r2)
  have HX := Lib.hid (And.intro (And.intro hm1 hm2) hg)
  have HC := Lib.hid hr
  have e1 : (L : Int).tmod (r : Int) = 0 := by rw [Int.tmod_eq_emod_of_nonneg (by omega)]; omega
  have e2 : ¬ (r : Int) = 0 := by omega
  have e3 : ¬ r = 0 := by omega
  have e4 : (L : Int) % (r : Int) = 0 := by omega
  have KS := Lib.hid (show ∀ u, Below w.heap.size w u → ((fun u => u.cell? ⟨pb, 0, none⟩ = some (.slice (some ⟨la, 0, none⟩) 1160 1160) ∧ u.cell? ⟨pb, 1, none⟩ = some (.int .i64 S1) ∧ u.cell? ⟨pb, 2, none⟩ = some (.int .i64 G1) ∧ u.cell? ⟨pb, 3, none⟩ = some (.slice (some ⟨lb, 0, none⟩) 1160 1160) ∧ u.cell? ⟨pb, 4, none⟩ = some (.int .i64 S2) ∧ u.cell? ⟨pb, 5, none⟩ = some (.int .i64 G2) ∧ u.cell? ⟨pb, 6, none⟩ = some (.int .i64 L) ∧ u.cell? ⟨rb, 1, none⟩ = some (.int .i64 r) ∧ u.cell? ⟨hb, 2, none⟩ = some (.int .i64 Gh) ∧ Hid (Below w.heap.size w u)) u) from fun u hu => by
    have p := HP.out.below hu
    exact ⟨p.lo.c0, p.lo.c1, p.lo.c2, p.c3, p.c4, p.c5, p.c6, (HC.out.below hu).c1, (HH.out.below hu).c2, hu⟩)
  clear hp hh r1 r2 hm1 hm2 hg hr
  go_enter Try.func71, Try.ntmps71
  go_wp2_with fail
  go_region_held3 (fun u => u.cell? ⟨pb, 0, none⟩ = some (.slice (some ⟨la, 0, none⟩) 1160 1160) ∧ u.cell? ⟨pb, 1, none⟩ = some (.int .i64 S1) ∧ u.cell? ⟨pb, 2, none⟩ = some (.int .i64 G1) ∧ u.cell? ⟨pb, 3, none⟩ = some (.slice (some ⟨lb, 0, none⟩) 1160 1160) ∧ u.cell? ⟨pb, 4, none⟩ = some (.int .i64 S2) ∧ u.cell? ⟨pb, 5, none⟩ = some (.int .i64 G2) ∧ u.cell? ⟨pb, 6, none⟩ = some (.int .i64 L) ∧ u.cell? ⟨rb, 1, none⟩ = some (.int .i64 r) ∧ u.cell? ⟨hb, 2, none⟩ = some (.int .i64 Gh) ∧ Hid (Below w.heap.size w u))
    (first | with_reducible exact KS.out _ (Below.refl _ _).drew | with_reducible exact KS.out _ (below_drew1 hbx))
    (first | (go_at_call 72; ((with_reducible refine (cgrow_any la S1 G1 lb S2 G2 L F1 F2 HX.out.1.1 HX.out.1.2 Gh HX.out.2 _ (HR.out.1.under (Below.refl _ _).drew) (HR.out.2.under (Below.refl _ _).drew)).mono ?_); rintro e w1 ⟨rfl, hbx⟩)))
  all_goals go_wp2_with fail
  all_goals go_ret
  all_goals exact ⟨rfl, below_drew1 hbx⟩

set_option maxRecDepth 100000 in
set_option maxHeartbeats 1600000 in
theorem check3 (cb pb hb : Nat) (la S1 : Nat) (G1 : Int) (lb S2 : Nat) (G2 : Int) (L : Nat) (lh Sh : Nat) (Gh : Int) (a : Option Addr) (n cap : Nat) (r : Nat) (knc : Int) (F ab N : Nat) (h1 : S1 ≤ 1000) (h2 : S2 ≤ 1000) (h3 : Sh ≤ 1000) (h4 : L ≤ 1000) (hF : max (S1 + S2) Sh + L = F) (hN : F + L = N)
    (w : World) (hc : Cert5 w cb (.slice a n cap) (.int .i64 r) (.int .i64 knc) (.int .i64 F) (.slice (some ⟨ab, 0, none⟩) N N)) (hp : PrB w pb la S1 G1 lb S2 G2 L) (hh : Cur3 w hb (.slice (some ⟨lh, 0, none⟩) 1160 1160) (.int .i64 Sh) (.int .i64 Gh)) :
    Calls Try.prog 73 #[.pointer (some ⟨cb, 0, none⟩), .pointer (some ⟨pb, 0, none⟩), .pointer (some ⟨hb, 0, none⟩)] w (Says (.bool true) w) := by
  have HP := Lib.hid hp
  have HH := Lib.hid hh
  have HC := Lib.hid hc
  have HF := Lib.hid hF
  have hb1 : F ≤ 4000 := by omega
  have e1 : (F : Int) + (L : Int) = (N : Int) := by omega
  have e2 : IntKind.i64.wrap (N : Int) = (N : Int) := IntWalk.i64_in _ ⟨by omega, by omega⟩
  have S := Lib.hid (show ∀ u, Below w.heap.size w u → ((fun u => u.cell? ⟨pb, 0, none⟩ = some (.slice (some ⟨la, 0, none⟩) 1160 1160) ∧ u.cell? ⟨pb, 1, none⟩ = some (.int .i64 S1) ∧ u.cell? ⟨pb, 2, none⟩ = some (.int .i64 G1) ∧ u.cell? ⟨pb, 3, none⟩ = some (.slice (some ⟨lb, 0, none⟩) 1160 1160) ∧ u.cell? ⟨pb, 4, none⟩ = some (.int .i64 S2) ∧ u.cell? ⟨pb, 5, none⟩ = some (.int .i64 G2) ∧ u.cell? ⟨pb, 6, none⟩ = some (.int .i64 L) ∧ u.cell? ⟨hb, 0, none⟩ = some (.slice (some ⟨lh, 0, none⟩) 1160 1160) ∧ u.cell? ⟨hb, 1, none⟩ = some (.int .i64 Sh) ∧ u.cell? ⟨hb, 2, none⟩ = some (.int .i64 Gh) ∧ u.cell? ⟨cb, 3, none⟩ = some (.int .i64 F) ∧ u.cell? ⟨cb, 4, none⟩ = some (.slice (some ⟨ab, 0, none⟩) N N) ∧ Hid (Below w.heap.size w u)) u) from fun u hu => by
    have p := HP.out.below hu
    have h := HH.out.below hu
    have c := HC.out.below hu
    exact ⟨p.lo.c0, p.lo.c1, p.lo.c2, p.c3, p.c4, p.c5, p.c6, h.c0, h.c1, h.c2, c.c3, c.c4, hu⟩)
  clear hp hh hc hF hN
  go_enter Try.func73, Try.ntmps73
  go_wp2_with fail
  go_region_held3 (fun u => u.cell? ⟨pb, 0, none⟩ = some (.slice (some ⟨la, 0, none⟩) 1160 1160) ∧ u.cell? ⟨pb, 1, none⟩ = some (.int .i64 S1) ∧ u.cell? ⟨pb, 2, none⟩ = some (.int .i64 G1) ∧ u.cell? ⟨pb, 3, none⟩ = some (.slice (some ⟨lb, 0, none⟩) 1160 1160) ∧ u.cell? ⟨pb, 4, none⟩ = some (.int .i64 S2) ∧ u.cell? ⟨pb, 5, none⟩ = some (.int .i64 G2) ∧ u.cell? ⟨pb, 6, none⟩ = some (.int .i64 L) ∧ u.cell? ⟨hb, 0, none⟩ = some (.slice (some ⟨lh, 0, none⟩) 1160 1160) ∧ u.cell? ⟨hb, 1, none⟩ = some (.int .i64 Sh) ∧ u.cell? ⟨hb, 2, none⟩ = some (.int .i64 Gh) ∧ u.cell? ⟨cb, 3, none⟩ = some (.int .i64 F) ∧ u.cell? ⟨cb, 4, none⟩ = some (.slice (some ⟨ab, 0, none⟩) N N) ∧ Hid (Below w.heap.size w u))
    (first | with_reducible exact S.out _ (Below.refl _ _).drew | with_reducible exact S.out _ (below_drew1 hbx))
    (first | (go_at_call 60; ((with_reducible refine (horizon_any la S1 G1 lb S2 G2 L lh Sh Gh h1 h2 h3 h4 F HF.out _).mono ?_); rintro e w1 ⟨rfl, hbx⟩)))
  all_goals go_wp2_with fail
  all_goals go_ret
  all_goals exact ⟨rfl, below_drew1 hbx⟩

set_option maxHeartbeats 1600000 in
theorem check4 (cb pb hb : Nat) (la S1 : Nat) (G1 : Int) (lb S2 : Nat) (G2 : Int) (L : Nat) (lh Sh : Nat) (Gh : Int) (a : Option Addr) (n cap : Nat) (r : Nat) (knc : Int) (F ab N : Nat) (w : World) (hc : Cert5 w cb (.slice a n cap) (.int .i64 r) (.int .i64 knc) (.int .i64 F) (.slice (some ⟨ab, 0, none⟩) N N)) (hp : PrB w pb la S1 G1 lb S2 G2 L) (hh : Cur3 w hb (.slice (some ⟨lh, 0, none⟩) 1160 1160) (.int .i64 Sh) (.int .i64 Gh))
    (hA : Calls Try.prog 75 #[pairV la S1 G1 lb S2 G2 L, curV (some ⟨lh, 0, none⟩) 1160 1160 Sh Gh, .slice (some ⟨ab, 0, none⟩) N N] w (Says (.bool true) w)) :
    Calls Try.prog 74 #[.pointer (some ⟨pb, 0, none⟩), .pointer (some ⟨hb, 0, none⟩), .pointer (some ⟨cb, 0, none⟩)] w (Says (.bool true) w) := by
  have HA := Lib.hid hA
  obtain ⟨⟨c0, c1, c2, f0, f1, f2⟩, c3, c4, c5, c6, f3, f4, f5, f6⟩ := hp
  obtain ⟨d0, d1, d2, g0, g1, g2⟩ := hh
  obtain ⟨⟨k0, k1, k2, _, _, _⟩, k3, k4, _, _⟩ := hc
  clear hA
  go_enter Try.func74, Try.ntmps74
  go_wp2_with fail
  refine HA.out.mono ?_
  rintro e w1 ⟨rfl, hb⟩
  have HB := Lib.hid hb
  clear hb
  go_wp2_with fail
  go_ret
  exact ⟨rfl, HB.out⟩

set_option maxHeartbeats 1600000 in
theorem check5 (pb hb : Nat) (la S1 : Nat) (G1 : Int) (lb S2 : Nat) (G2 : Int) (L : Nat) (lh Sh : Nat) (Gh : Int) (w : World) (hp : PrB w pb la S1 G1 lb S2 G2 L) (hh : Cur3 w hb (.slice (some ⟨lh, 0, none⟩) 1160 1160) (.int .i64 Sh) (.int .i64 Gh))
    (hA : Calls Try.prog 77 #[pairV la S1 G1 lb S2 G2 L, curV (some ⟨lh, 0, none⟩) 1160 1160 Sh Gh] w (Says (.bool true) w)) :
    Calls Try.prog 76 #[.pointer (some ⟨pb, 0, none⟩), .pointer (some ⟨hb, 0, none⟩)] w (Says (.bool true) w) := by
  have HA := Lib.hid hA
  obtain ⟨⟨c0, c1, c2, f0, f1, f2⟩, c3, c4, c5, c6, f3, f4, f5, f6⟩ := hp
  obtain ⟨d0, d1, d2, g0, g1, g2⟩ := hh
  clear hA
  go_enter Try.func76, Try.ntmps76
  go_wp2_with fail
  refine HA.out.mono ?_
  rintro e w1 ⟨rfl, hb⟩
  have HB := Lib.hid hb
  clear hb
  go_wp2_with fail
  go_ret
  exact ⟨rfl, HB.out⟩

/-- What stands while the tests are made. -/
structure CKB (w : World) (cb rb pb hb tb : Nat) (la S1 : Nat) (G1 : Int) (lb S2 : Nat) (G2 : Int) (L : Nat) (lh Sh : Nat) (Gh : Int) (a : Option Addr) (n cap : Nat) (r : Nat) (knc : Int) (F ab N : Nat) (a5 : Option Addr) (n5 cap5 : Nat) (hs : List Int) (F1 F2 Fh : Nat → Int) (A : Nat → Nat) (u : World) : Prop where
  c : Cert5 u cb (.slice a n cap) (.int .i64 r) (.int .i64 knc) (.int .i64 F) (.slice (some ⟨ab, 0, none⟩) N N)
  rs : Cur3 u rb (.slice a5 n5 cap5) (.int .i64 r) (.int .i64 knc)
  pr : PrB u pb la S1 G1 lb S2 G2 L
  hp : Cur3 u hb (.slice (some ⟨lh, 0, none⟩) 1160 1160) (.int .i64 Sh) (.int .i64 Gh)
  rc : RowZ u a n cap hs
  rr : RowZ u a5 n5 cap5 hs
  r1 : RowF u la 1160 F1
  r2 : RowF u lb 1160 F2
  r3 : RowF u lh 1160 Fh
  ra : RowF u ab N (fun i => ((A i : Nat) : Int))
  below : Below w.heap.size w u
section
variable {w u v : World} {cb rb pb hb tb la S1 : Nat} {G1 : Int} {lb S2 : Nat} {G2 : Int} {L lh Sh : Nat} {Gh : Int} {a : Option Addr} {n cap r : Nat} {knc : Int} {F ab N : Nat} {a5 : Option Addr} {n5 cap5 : Nat} {hs : List Int} {F1 F2 Fh : Nat → Int} {A : Nat → Nat}
theorem CKB.call (h : CKB w cb rb pb hb tb la S1 G1 lb S2 G2 L lh Sh Gh a n cap r knc F ab N a5 n5 cap5 hs F1 F2 Fh A u) (hb' : Below u.heap.size u v) : CKB w cb rb pb hb tb la S1 G1 lb S2 G2 L lh Sh Gh a n cap r knc F ab N a5 n5 cap5 hs F1 F2 Fh A v :=
  ⟨h.c.below hb', h.rs.below hb', h.pr.below hb', h.hp.below hb', h.rc.under hb', h.rr.under hb', h.r1.under hb', h.r2.under hb', h.r3.under hb', h.ra.under hb', h.below.trans (hb'.mono h.below.size)⟩
end
/-- The list of the tests. -/
structure Tests (cb rb pb hb tb : Nat) (u : World) : Prop where
  t0 : u.cell? ⟨tb, 0, none⟩ = some (.func (.func 69) #[] #[.pointer (some ⟨cb, 0, none⟩), .pointer (some ⟨rb, 0, none⟩)])
  t1 : u.cell? ⟨tb, 1, none⟩ = some (.func (.func 71) #[] #[.pointer (some ⟨pb, 0, none⟩), .pointer (some ⟨rb, 0, none⟩), .pointer (some ⟨hb, 0, none⟩)])
  t2 : u.cell? ⟨tb, 2, none⟩ = some (.func (.func 73) #[] #[.pointer (some ⟨cb, 0, none⟩), .pointer (some ⟨pb, 0, none⟩), .pointer (some ⟨hb, 0, none⟩)])
  t3 : u.cell? ⟨tb, 3, none⟩ = some (.func (.func 74) #[] #[.pointer (some ⟨pb, 0, none⟩), .pointer (some ⟨hb, 0, none⟩), .pointer (some ⟨cb, 0, none⟩)])
  t4 : u.cell? ⟨tb, 4, none⟩ = some (.func (.func 76) #[] #[.pointer (some ⟨pb, 0, none⟩), .pointer (some ⟨hb, 0, none⟩)])
theorem Tests.under {cb rb pb hb tb : Nat} {u v : World} (h : Tests cb rb pb hb tb u) (hb' : Below u.heap.size u v) : Tests cb rb pb hb tb v :=
  ⟨(hb'.cell (p := ⟨tb, 0, none⟩) (lt_of_cell h.t0)).trans h.t0, (hb'.cell (p := ⟨tb, 1, none⟩) (lt_of_cell h.t1)).trans h.t1, (hb'.cell (p := ⟨tb, 2, none⟩) (lt_of_cell h.t2)).trans h.t2, (hb'.cell (p := ⟨tb, 3, none⟩) (lt_of_cell h.t3)).trans h.t3, (hb'.cell (p := ⟨tb, 4, none⟩) (lt_of_cell h.t4)).trans h.t4⟩

set_option maxRecDepth 100000 in
set_option maxHeartbeats 6400000 in
theorem check_ok (a1 : Option Addr) (n1 cap1 : Nat) (z1 : List Int) (p1 : Nat) (i1 : Int) (g1 : Good z1 p1 i1) (a2 : Option Addr) (n2 cap2 : Nat) (z2 : List Int) (p2 : Nat) (i2 : Int) (g2 : Good z2 p2 i2) (L : Nat) (hL2 : L ≤ 120) {y1 : List Int} {q1 : Nat} {j1 : Int} {y2 : List Int} {q2 : Nat} {j2 : Int} (hn1 : NormC z1 p1 i1 y1 q1 j1) (hn2 : NormC z2 p2 i2 y2 q2 j2) (hLL : q1 / Nat.gcd q1 q2 * q2 = L) (a : Option Addr) (n cap : Nat) (hs : List Int) (r : Nat) (knc : Int) (F ab N : Nat) (A : Nat → Nat) (hf : EForm hs r knc (eConv z1 p1 i1 z2 p2 i2)) (hF : F = hori (y1.length - q1) (y2.length - q2) (hs.length - r) L) (hN : N = F + L) (hA : ∀ t, t < N → AttP y1 q1 j1 y2 q2 j2 hs r knc L (A t) t)
    (w : World) (h1 : RowZ w a1 n1 cap1 z1) (h2 : RowZ w a2 n2 cap2 z2) (hr : RowZ w a n cap hs) (ha : RowF w ab N (fun i => ((A i : Nat) : Int))) :
    Calls Try.prog 32 #[curV a1 n1 cap1 p1 i1, curV a2 n2 cap2 p2 i2, certV a n cap r knc F ab N] w (Says (.bool true) w) := by
  have hmf : ∀ (fn : Fn) (first cap : Array Value) (w : World), (Instr.makeFunc fn first cap).run Try.prog w = .ok (.func fn first cap) w := fun _ _ _ _ => rfl
  have k1 := hn1.good g1
  have k2 := hn2.good g2
  have hM := (lcm_of k1.p1 k2.p1 hLL).mult
  have hE : eConv y1 q1 j1 y2 q2 j2 = eConv z1 p1 i1 z2 p2 i2 := by unfold eConv; rw [funext (hn1.eform g1).2.1, funext (hn2.eform g2).2.1]
  rw [← hE] at hf
  obtain ⟨s5, hs5, hns5⟩ := norm_self hf
  have HG := Lib.hid (And.intro g1 g2)
  have HK := Lib.hid (And.intro k1 k2)
  have HN := Lib.hid (And.intro hn1 hn2)
  have HLL := Lib.hid hLL
  have HM := Lib.hid hM
  have HF := Lib.hid hf
  have HFF := Lib.hid (show max (y1.length - q1 + (y2.length - q2)) (hs.length - r) + L = F from hF.symm)
  have HNF := Lib.hid hN.symm
  have gp1 := hf.1.p1
  have gp2 := hf.1.p2
  have gp3 := hf.1.p3
  have gp4 := hf.1.few
  have b1 : y1.length - q1 ≤ 400 := by have := k1.few; omega
  have b2 : y2.length - q2 ≤ 400 := by have := k2.few; omega
  have b3 : hs.length - r ≤ 400 := by omega
  have hN1160 : N ≤ 1160 := by
    have := k1.few; have := k1.p1; have := k1.p3; have := k2.few; have := k2.p1; have := k2.p3
    unfold hori at hF; omega
  have HA := Lib.hid (fun t ht => (attP_iff hF.symm).1 (hA t ht))
  have HS5 := Lib.hid (And.intro (show hs.length = (hs.length - r) + r by omega) hns5)
  have HI := Lib.hid (show In64 (r : Int) ∧ In64 knc from ⟨⟨by omega, by omega⟩, ⟨by have := hf.1.i0; omega, by have := hf.1.i1; omega⟩⟩)
  obtain ⟨W, hW⟩ : ∃ W, ((w.alloc (.cells #[.slice a1 n1 cap1, .int .i64 p1, .int .i64 i1] 24)).alloc (.cells #[.slice a2 n2 cap2, .int .i64 p2, .int .i64 i2] 24)).alloc (.cells #[.slice a n cap, .int .i64 r, .int .i64 knc, .int .i64 F, .slice (some ⟨ab, 0, none⟩) N N] 40) = W := ⟨_, rfl⟩
  have hB : Below w.heap.size w W := by rw [← hW]; exact (((Below.refl _ _).alloc (Nat.le_refl _) _).alloc (by simp) _).alloc (by simp; omega) _
  have hWs : W.heap.size = w.heap.size + 3 := by rw [← hW]; simp
  have m1 : Cur3 W w.heap.size (.slice a1 n1 cap1) (.int .i64 p1) (.int .i64 i1) := by rw [← hW]; exact ((Cur3.new w _ _ _ _).alloc _).alloc _
  have m2 : Cur3 W (w.heap.size + 1) (.slice a2 n2 cap2) (.int .i64 p2) (.int .i64 i2) := by rw [← hW]; exact (Cur3.new2 w _ _ _ _ _).alloc _
  have mr : Cert5 W (w.heap.size + 2) (.slice a n cap) (.int .i64 r) (.int .i64 knc) (.int .i64 F) (.slice (some ⟨ab, 0, none⟩) N N) := by
    rw [← hW]
    have := cert5_new ((w.alloc (.cells #[.slice a1 n1 cap1, .int .i64 p1, .int .i64 i1] 24)).alloc (.cells #[.slice a2 n2 cap2, .int .i64 p2, .int .i64 i2] 24)) (.slice a n cap) (.int .i64 r) (.int .i64 knc) (.int .i64 F) (.slice (some ⟨ab, 0, none⟩) N N) 40
    simpa using this
  have HB := Lib.hid hB
  have KC := Lib.hid mr
  have HR := Lib.hid (And.intro (And.intro (h1.under hB) (h2.under hB)) (And.intro (hr.under hB) (ha.under hB)))
  have HW := Lib.hid hW
  obtain ⟨c0, c1, c2, f0, f1, f2⟩ := m1
  obtain ⟨d0, d1, d2, e0, e1, e2⟩ := m2
  clear g1 g2 hn1 hn2 hLL hM k1 k2 h1 h2 hB mr hWs hW hE hf hF hN hA hr ha hs5 hns5
  go_enter Try.func32, Try.ntmps32
  go_upto_region 1 with fail
  try rw [HW.out]
  go_wp2_with fail
  clear c0 c1 c2 f0 f1 f2 d0 d1 d2 e0 e1 e2
  refine (paired_ok a1 n1 cap1 z1 p1 i1 HG.out.1 a2 n2 cap2 z2 p2 i2 HG.out.2 HN.out.1 HN.out.2 L HLL.out hL2 _ HR.out.1.1 HR.out.1.2).mono ?_
  rintro e v1 ⟨la, lb, rfl, hb, hr1, hr2⟩
  obtain ⟨W2, hw⟩ : ∃ W2, v1.alloc (.cells #[.slice (some ⟨la, 0, none⟩) 1160 1160, .int .i64 (y1.length - q1 : Nat), .int .i64 (growI y1 q1 j1 L), .slice (some ⟨lb, 0, none⟩) 1160 1160, .int .i64 (y2.length - q2 : Nat), .int .i64 (growI y2 q2 j2 L), .int .i64 L] 68) = W2 := ⟨_, rfl⟩
  have hz : Below v1.heap.size v1 W2 := by rw [← hw]; exact (Below.refl _ _).alloc (Nat.le_refl _) _
  have hWz : Below W.heap.size W W2 := hb.trans (hz.mono hb.size)
  have PB := Lib.hid (show PrB W2 v1.heap.size la (y1.length - q1) (growI y1 q1 j1 L) lb (y2.length - q2) (growI y2 q2 j2 L) L by rw [← hw]; exact pr7_new v1 _ _ _ _ _ _ _ _)
  have KC2 := Lib.hid (KC.out.below hWz)
  have HB2 := Lib.hid (HB.out.trans (hWz.mono HB.out.size))
  have RR := Lib.hid (And.intro (And.intro (hr1.under hz) (hr2.under hz)) (And.intro (HR.out.2.1.under hWz) (HR.out.2.2.under hWz)))
  have HW2 := Lib.hid hw
  clear hb hr1 hr2 hw hz hWz
  obtain ⟨⟨c0, c1, c2, f0, f1, f2⟩, c3, c4, f3, f4⟩ := KC2.out
  go_upto_region 4 with fail
  try rw [HW2.out]
  go_wp2_with fail
  clear c0 c1 c2 f0 f1 f2 c3 c4 f3 f4
  refine (normal_ok a n cap hs r knc HF.out.1 _ RR.out.2.1).mono ?_
  rintro e v2 ⟨a5, n5, cap5, zs5, p5, inc5, rfl, hb2, hr5, hn5, hx5⟩
  obtain ⟨rfl, rfl, rfl⟩ := HS5.out.2.canon HF.out.1 HF.out.1 hn5 (fun _ => rfl)
  obtain ⟨W3, hw3⟩ : ∃ W3, v2.alloc (.cells #[.slice a5 n5 cap5, .int .i64 r, .int .i64 knc] 24) = W3 := ⟨_, rfl⟩
  have hz3 : Below v2.heap.size v2 W3 := by rw [← hw3]; exact (Below.refl _ _).alloc (Nat.le_refl _) _
  have hb3 : Below W2.heap.size W2 W3 := hb2.trans (hz3.mono hb2.size)
  have PB3 := Lib.hid (PB.out.below hb3)
  have KC3 := Lib.hid (KC2.out.below hb3)
  have HB3 := Lib.hid (HB2.out.trans (hb3.mono HB2.out.size))
  have RR3 := Lib.hid (And.intro (And.intro (RR.out.1.1.under hb3) (RR.out.1.2.under hb3)) (And.intro (RR.out.2.1.under hb3) (RR.out.2.2.under hb3)))
  have X3 := Lib.hid (show Bx W3 v2.heap.size a5 n5 cap5 r knc hs by rw [← hw3]; exact Bx.new hr5)
  have HW3 := Lib.hid hw3
  clear hb2 hr5 hn5 hx5 hw3 hz3 hb3
  obtain ⟨⟨c0, c1, c2, f0, f1, f2⟩, c3, c4, c5, c6, f3, f4, f5, f6⟩ := PB3.out
  obtain ⟨d0, d1, d2, e0, e1, e2⟩ := X3.out.box
  go_upto_region 7 with fail
  try rw [HW3.out]
  go_wp2_with fail
  clear c0 c1 c2 f0 f1 f2 c3 c4 c5 c6 f3 f4 f5 f6 d0 d1 d2 e0 e1 e2
  refine (described_ok a5 n5 cap5 hs r knc HF.out.1 HS5.out.2 (hs.length - r) HS5.out.1 L hL2 (growI hs r knc L) rfl _ X3.out.row).mono ?_
  rintro e v3 ⟨lh, rfl, hb4, hlh, hr4⟩
  obtain ⟨W4, hw4⟩ : ∃ W4, v3.alloc (.cells #[.slice (some ⟨lh, 0, none⟩) 1160 1160, .int .i64 (hs.length - r : Nat), .int .i64 (growI hs r knc L)] 66) = W4 := ⟨_, rfl⟩
  have hz4 : Below v3.heap.size v3 W4 := by rw [← hw4]; exact (Below.refl _ _).alloc (Nat.le_refl _) _
  have hb5 : Below W3.heap.size W3 W4 := hb4.trans (hz4.mono hb4.size)
  obtain ⟨tb, htb⟩ : ∃ tb, W4.heap.size = tb := ⟨_, rfl⟩
  have CK := Lib.hid (show CKB w (w.heap.size + 1 + 1) v2.heap.size v1.heap.size v3.heap.size tb la (y1.length - q1) (growI y1 q1 j1 L) lb (y2.length - q2) (growI y2 q2 j2 L) L lh (hs.length - r) (growI hs r knc L) a n cap r knc F ab N a5 n5 cap5 hs (atC y1 q1 j1) (atC y2 q2 j2) (atC hs r knc) A W4 from ⟨KC3.out.below hb5, X3.out.box.below hb5, PB3.out.below hb5, by rw [← hw4]; exact Cur3.new v3 _ _ _ _, RR3.out.2.1.under hb5, X3.out.row.under hb5, RR3.out.1.1.under hb5, RR3.out.1.2.under hb5, hr4.under hz4, RR3.out.2.2.under hb5, HB3.out.trans (hb5.mono HB3.out.size)⟩)
  have HW4 := Lib.hid hw4
  clear hb4 hlh hr4 hw4 hz4 hb5
  go_upto_region 8 with fail
  try rw [HW4.out]
  obtain ⟨W5, hw5⟩ : ∃ W5, W4.alloc (.cells #[.func (.func 69) #[] #[.pointer (some ⟨w.heap.size + 1 + 1, 0, none⟩), .pointer (some ⟨v2.heap.size, 0, none⟩)], .func (.func 71) #[] #[.pointer (some ⟨v1.heap.size, 0, none⟩), .pointer (some ⟨v2.heap.size, 0, none⟩), .pointer (some ⟨v3.heap.size, 0, none⟩)], .func (.func 73) #[] #[.pointer (some ⟨w.heap.size + 1 + 1, 0, none⟩), .pointer (some ⟨v1.heap.size, 0, none⟩), .pointer (some ⟨v3.heap.size, 0, none⟩)], .func (.func 74) #[] #[.pointer (some ⟨v1.heap.size, 0, none⟩), .pointer (some ⟨v3.heap.size, 0, none⟩), .pointer (some ⟨w.heap.size + 1 + 1, 0, none⟩)], .func (.func 76) #[] #[.pointer (some ⟨v1.heap.size, 0, none⟩), .pointer (some ⟨v3.heap.size, 0, none⟩)]] 26) = W5 := ⟨_, rfl⟩
  have hz5 : Below W4.heap.size W4 W5 := by rw [← hw5]; exact (Below.refl _ _).alloc (Nat.le_refl _) _
  have TS := Lib.hid (show Tests (w.heap.size + 1 + 1) v2.heap.size v1.heap.size v3.heap.size tb W5 from by
    have c5 : Cert5 (W4.alloc (.cells #[.func (.func 69) #[] #[.pointer (some ⟨w.heap.size + 1 + 1, 0, none⟩), .pointer (some ⟨v2.heap.size, 0, none⟩)], .func (.func 71) #[] #[.pointer (some ⟨v1.heap.size, 0, none⟩), .pointer (some ⟨v2.heap.size, 0, none⟩), .pointer (some ⟨v3.heap.size, 0, none⟩)], .func (.func 73) #[] #[.pointer (some ⟨w.heap.size + 1 + 1, 0, none⟩), .pointer (some ⟨v1.heap.size, 0, none⟩), .pointer (some ⟨v3.heap.size, 0, none⟩)], .func (.func 74) #[] #[.pointer (some ⟨v1.heap.size, 0, none⟩), .pointer (some ⟨v3.heap.size, 0, none⟩), .pointer (some ⟨w.heap.size + 1 + 1, 0, none⟩)], .func (.func 76) #[] #[.pointer (some ⟨v1.heap.size, 0, none⟩), .pointer (some ⟨v3.heap.size, 0, none⟩)]] 26)) W4.heap.size _ _ _ _ _ := cert5_new W4 _ _ _ _ _ _
    rw [hw5, htb] at c5
    exact ⟨c5.lo.c0, c5.lo.c1, c5.lo.c2, c5.c3, c5.c4⟩)
  have CK5 := Lib.hid (CK.out.call hz5)
  have HW5 := Lib.hid hw5
  clear hz5 hw5
  go_upto_region 9 with fail
  try rw [HW5.out]
  go_wp2_with fail
  have ev1 := Lib.hid (show ∀ (args : Array Value) (w : World), (callFunc 69 args).run Try.prog w = .ok (.enter 69 args) w from enters_of Try.func69 (by kernel_rfl) rfl)
  have ev2 := Lib.hid (show ∀ (args : Array Value) (w : World), (callFunc 71 args).run Try.prog w = .ok (.enter 71 args) w from enters_of Try.func71 (by kernel_rfl) rfl)
  have ev3 := Lib.hid (show ∀ (args : Array Value) (w : World), (callFunc 73 args).run Try.prog w = .ok (.enter 73 args) w from enters_of Try.func73 (by kernel_rfl) rfl)
  have ev4 := Lib.hid (show ∀ (args : Array Value) (w : World), (callFunc 74 args).run Try.prog w = .ok (.enter 74 args) w from enters_of Try.func74 (by kernel_rfl) rfl)
  have ev5 := Lib.hid (show ∀ (args : Array Value) (w : World), (callFunc 76 args).run Try.prog w = .ok (.enter 76 args) w from enters_of Try.func76 (by kernel_rfl) rfl)
  obtain ⟨cb, hcb⟩ : ∃ cb, w.heap.size + 1 + 1 = cb := ⟨_, rfl⟩
  rw [hcb] at TS CK5
  clear hmf htb hcb HW5 HW4 HW3 HW2 HW CK X3 PB PB3 KC KC2 KC3 HB HB2 HB3 RR RR3 HR
  have hm1 : ∀ t, t < 1160 → Mid (atC y1 q1 j1 t) := fun t ht => at_mid2 HK.out.1 (by omega)
  have hm2 : ∀ t, t < 1160 → Mid (atC y2 q2 j2 t) := fun t ht => at_mid2 HK.out.2 (by omega)
  have HMM := Lib.hid (And.intro hm1 hm2)
  have hFG := form_grow HK.out.1 HK.out.2 HF.out HM.out hL2
  have HFG := Lib.hid hFG
  have L1 := HM.out.one
  clear hm1 hm2 hFG
  generalize hv1 : v1.heap.size = pb at *
  generalize hv2 : v2.heap.size = rb at *
  generalize hv3 : v3.heap.size = hb at *
  clear hv1 hv2 hv3
  go_loopw [42] (fun s42 wx => ∃ k : Nat, s42 = .int .i64 k ∧ k ≤ 5 ∧ Hid (CKB w cb rb pb hb tb la (y1.length - q1) (growI y1 q1 j1 L) lb (y2.length - q2) (growI y2 q2 j2 L) L lh (hs.length - r) (growI hs r knc L) a n cap r knc F ab N a5 n5 cap5 hs (atC y1 q1 j1) (atC y2 q2 j2) (atC hs r knc) A wx ∧ Tests cb rb pb hb tb wx)) (fun s42 _ => 5 - (intOf s42).toNat)
  case atStart => exact ⟨0, by go_num, Nat.zero_le _, CK5.out, TS.out⟩
  case round =>
    obtain ⟨k, rfl, hk, PT⟩ := hrel
    obtain ⟨wt, rfl⟩ : ∃ u : World, u = wr := ⟨_, rfl⟩
    by_cases hlt : k < 5
    · have hlti : (k : Int) < 5 := by omega
      rcases (show k = 0 ∨ k = 1 ∨ k = 2 ∨ k = 3 ∨ k = 4 by omega) with rfl | rfl | rfl | rfl | rfl
      · have ev := ev1.out
        have tc := PT.out.2.t0
        go_wp2_with fail
        clear tc
        refine (check1 cb rb a n cap r knc F ab N a5 n5 cap5 hs _ PT.out.1.c PT.out.1.rs PT.out.1.rc PT.out.1.rr).mono ?_
        rintro e w1 ⟨rfl, hbx⟩
        have PX := Lib.hid (And.intro (PT.out.1.call hbx) (PT.out.2.under hbx))
        clear hbx ev
        go_wp2_with fail
        go_roundw
        case rel => exact ⟨1, by go_num, by omega, PX⟩
        case measure => simp [intOf]
      · have ev := ev2.out
        have tc := PT.out.2.t1
        go_wp2_with fail
        clear tc
        refine (check2 pb rb hb la (y1.length - q1) (growI y1 q1 j1 L) lb (y2.length - q2) (growI y2 q2 j2 L) L lh (hs.length - r) (growI hs r knc L) (atC y1 q1 j1) (atC y2 q2 j2) a5 n5 cap5 r knc gp1 gp2 hL2 HFG.out.2.1 (HMM.out.1 0 (by omega)) (HMM.out.2 0 (by omega)) HFG.out.1.symm _ PT.out.1.pr PT.out.1.rs PT.out.1.hp PT.out.1.r1 PT.out.1.r2).mono ?_
        rintro e w1 ⟨rfl, hbx⟩
        have PX := Lib.hid (And.intro (PT.out.1.call hbx) (PT.out.2.under hbx))
        clear hbx ev
        go_wp2_with fail
        go_roundw
        case rel => exact ⟨2, by go_num, by omega, PX⟩
        case measure => simp [intOf]
      · have ev := ev3.out
        have tc := PT.out.2.t2
        go_wp2_with fail
        clear tc
        refine (check3 cb pb hb la (y1.length - q1) (growI y1 q1 j1 L) lb (y2.length - q2) (growI y2 q2 j2 L) L lh (hs.length - r) (growI hs r knc L) a n cap r knc F ab N (by omega) (by omega) (by omega) (by omega) HFF.out HNF.out _ PT.out.1.c PT.out.1.pr PT.out.1.hp).mono ?_
        rintro e w1 ⟨rfl, hbx⟩
        have PX := Lib.hid (And.intro (PT.out.1.call hbx) (PT.out.2.under hbx))
        clear hbx ev
        go_wp2_with fail
        go_roundw
        case rel => exact ⟨3, by go_num, by omega, PX⟩
        case measure => simp [intOf]
      · have ev := ev4.out
        have tc := PT.out.2.t3
        go_wp2_with fail
        clear tc
        refine (check4 cb pb hb la (y1.length - q1) (growI y1 q1 j1 L) lb (y2.length - q2) (growI y2 q2 j2 L) L lh (hs.length - r) (growI hs r knc L) a n cap r knc F ab N _ PT.out.1.c PT.out.1.pr PT.out.1.hp (attained_ok la (y1.length - q1) (growI y1 q1 j1 L) lb (y2.length - q2) (growI y2 q2 j2 L) L lh (hs.length - r) (growI hs r knc L) (atC y1 q1 j1) (atC y2 q2 j2) (atC hs r knc) ab N N hN1160 (by omega) (by omega) (by omega) (by omega) HMM.out.1 HMM.out.2 F HFF.out A (fun t ht => HA.out t ht) _ PT.out.1.r1 PT.out.1.r2 PT.out.1.r3 PT.out.1.ra)).mono ?_
        rintro e w1 ⟨rfl, hbx⟩
        have PX := Lib.hid (And.intro (PT.out.1.call hbx) (PT.out.2.under hbx))
        clear hbx ev
        go_wp2_with fail
        go_roundw
        case rel => exact ⟨4, by go_num, by omega, PX⟩
        case measure => simp [intOf]
      · have ev := ev5.out
        have tc := PT.out.2.t4
        have BM := Lib.hid (show (max (y1.length - q1) (hs.length - r) + L) + (max (y2.length - q2) (hs.length - r) + L) ≤ 1161 ∧ (1 ≤ max (y1.length - q1) (hs.length - r) + L ∧ 1 ≤ max (y2.length - q2) (hs.length - r) + L) by
          have := HK.out.1.few; have := HK.out.1.p1; have := HK.out.1.p3; have := HK.out.2.few; have := HK.out.2.p1; have := HK.out.2.p3; omega)
        go_wp2_with fail
        clear tc
        refine (check5 pb hb la (y1.length - q1) (growI y1 q1 j1 L) lb (y2.length - q2) (growI y2 q2 j2 L) L lh (hs.length - r) (growI hs r knc L) _ PT.out.1.pr PT.out.1.hp (bounded_ok la (y1.length - q1) (growI y1 q1 j1 L) lb (y2.length - q2) (growI y2 q2 j2 L) L lh (hs.length - r) (growI hs r knc L) (atC y1 q1 j1) (atC y2 q2 j2) (atC hs r knc) (by omega) (by omega) (by omega) (by omega) HMM.out.1 HMM.out.2 _ _ rfl rfl BM.out.1 BM.out.2 (fun s u h1 h2 => below_ex HK.out.1 HK.out.2 HF.out (by have := BM.out.1; omega) (by have := BM.out.1; omega)) _ PT.out.1.r1 PT.out.1.r2 PT.out.1.r3)).mono ?_
        rintro e w1 ⟨rfl, hbx⟩
        have PX := Lib.hid (And.intro (PT.out.1.call hbx) (PT.out.2.under hbx))
        clear hbx ev
        go_wp2_with fail
        go_roundw
        case rel => exact ⟨5, by go_num, by omega, PX⟩
        case measure => simp [intOf]
    · obtain rfl : k = 5 := by omega
      have HBF := Lib.hid PT.out.1.below
      go_wp2_with fail
      go_ret
      exact ⟨rfl, HBF.out⟩


end Go.Proofs.Ytladmpoopfabdaa

namespace Go.Proofs.Ytladmpoopfabdaa
open Go.RowKit
set_option linter.unusedSimpArgs false
set_option linter.unusedVariables false

theorem e5_good : Good [0] 1 5 := (okC_iff [0] 1 5).1 (by decide)
theorem e5_at (t : Nat) : atC [0] 1 5 t = 5 * (t : Int) := by
  have hp := e5_good.per (show ¬ ([0] : List Int).getD (([0] : List Int).length - 1) 0 = infV by decide)
  induction t with
  | zero => decide
  | succ t ih => have := hp t (Nat.zero_le _); omega
theorem ex_conv : eConv [0] 1 3 [0] 1 5 = eC [0] 1 3 := by
  refine funext fun t => ole_anti ?_ (oconv_great fun s hs => ?_)
  · have h := oconv_le (a := eC [0] 1 3) (b := eC [0] 1 5) (Nat.le_refl t)
    rw [show t - t = 0 by omega, eC_fin e0_fin, eC_fin e0_fin, e5_at, show oadd (some (atC [0] 1 3 t)) (some (5 * ((0 : Nat) : Int))) = some (atC [0] 1 3 t) by show some (_ + _) = _; congr 1; omega] at h
    rw [eC_fin e0_fin]; exact h
  · rw [eC_fin e0_fin, eC_fin e0_fin, eC_fin e0_fin, e5_at, e0_at, e0_at]
    exact ole_some (by omega)
theorem ex_line : EForm [0] 1 3 (eC [0] 1 3) :=
  ⟨e0_good, fun _ => rfl, 0, rfl, e0_good.per e0_fin, by decide, fun q h1 h2 => by omega, .inl rfl⟩
theorem ex_can : ECan (eConv [0] 1 3 [0] 1 5) := by rw [ex_conv]; exact self_can e0_good

theorem lits7 (w : World) : Bx ((((w.alloc (.cells #[.int .i64 0] 3)).alloc (.cells #[.int .i64 0] 3)).alloc (.cells #[.slice (some ⟨w.heap.size, 0, none⟩) 1 1, .int .i64 1, .int .i64 3] 24)).alloc (.cells #[.slice (some ⟨w.heap.size + 1, 0, none⟩) 1 1, .int .i64 1, .int .i64 5] 24)) (w.heap.size + 1 + 1) (some ⟨w.heap.size, 0, none⟩) 1 1 1 3 [0] ∧
    Bx ((((w.alloc (.cells #[.int .i64 0] 3)).alloc (.cells #[.int .i64 0] 3)).alloc (.cells #[.slice (some ⟨w.heap.size, 0, none⟩) 1 1, .int .i64 1, .int .i64 3] 24)).alloc (.cells #[.slice (some ⟨w.heap.size + 1, 0, none⟩) 1 1, .int .i64 1, .int .i64 5] 24)) (w.heap.size + 1 + 1 + 1) (some ⟨w.heap.size + 1, 0, none⟩) 1 1 1 5 [0] ∧
    Below w.heap.size w ((((w.alloc (.cells #[.int .i64 0] 3)).alloc (.cells #[.int .i64 0] 3)).alloc (.cells #[.slice (some ⟨w.heap.size, 0, none⟩) 1 1, .int .i64 1, .int .i64 3] 24)).alloc (.cells #[.slice (some ⟨w.heap.size + 1, 0, none⟩) 1 1, .int .i64 1, .int .i64 5] 24)) := by
  have r1 := rowZ_lit w [0] 3 (by decide) (by decide)
  have r2 := rowZ_lit (w.alloc (.cells #[.int .i64 0] 3)) [0] 3 (by decide) (by decide)
  have e1 : (w.alloc (.cells #[.int .i64 0] 3)).heap.size = w.heap.size + 1 := by simp
  rw [e1] at r2
  have b1 := Cur3.new ((w.alloc (.cells #[.int .i64 0] 3)).alloc (.cells #[.int .i64 0] 3)) (.slice (some ⟨w.heap.size, 0, none⟩) 1 1) (.int .i64 1) (.int .i64 3) 24
  rw [show ((w.alloc (.cells #[.int .i64 0] 3)).alloc (.cells #[.int .i64 0] 3)).heap.size = w.heap.size + 1 + 1 by simp] at b1
  have b2 := Cur3.new (((w.alloc (.cells #[.int .i64 0] 3)).alloc (.cells #[.int .i64 0] 3)).alloc (.cells #[.slice (some ⟨w.heap.size, 0, none⟩) 1 1, .int .i64 1, .int .i64 3] 24)) (.slice (some ⟨w.heap.size + 1, 0, none⟩) 1 1) (.int .i64 1) (.int .i64 5) 24
  rw [show (((w.alloc (.cells #[.int .i64 0] 3)).alloc (.cells #[.int .i64 0] 3)).alloc (.cells #[.slice (some ⟨w.heap.size, 0, none⟩) 1 1, .int .i64 1, .int .i64 3] 24)).heap.size = w.heap.size + 1 + 1 + 1 by simp] at b2
  exact ⟨⟨b1.alloc _, ((r1.alloc _).alloc _).alloc _⟩, ⟨b2, (r2.alloc _).alloc _⟩, ((((Below.refl _ _).alloc (Nat.le_refl _) _).alloc (by simp) _).alloc (by simp; omega) _).alloc (by simp; omega) _⟩

set_option maxRecDepth 100000 in
set_option maxHeartbeats 3200000 in
theorem check_zero (a1 : Option Addr) (n1 cap1 : Nat) (z1 : List Int) (p1 : Nat) (i1 : Int) (g1 : Good z1 p1 i1) (a2 : Option Addr) (n2 cap2 : Nat) (z2 : List Int) (p2 : Nat) (i2 : Int) (g2 : Good z2 p2 i2) (L : Nat) (hL : LcmN z1 p1 i1 z2 p2 i2 L) (hL2 : L ≤ 120) (w : World) (h1 : RowZ w a1 n1 cap1 z1) (h2 : RowZ w a2 n2 cap2 z2) :
    Calls Try.prog 32 #[curV a1 n1 cap1 p1 i1, curV a2 n2 cap2 p2 i2, .agg #[.slice none 0 0, .int .i64 0, .int .i64 0, .int .i64 0, .slice none 0 0]] w (Says (.bool false) w) := by
  obtain ⟨y1, q1, j1, y2, q2, j2, hn1, hn2, hLL⟩ := hL
  have k1 := hn1.good g1
  have k2 := hn2.good g2
  have hM := (lcm_of k1.p1 k2.p1 hLL).mult
  have HE := Lib.hid (show eConv y1 q1 j1 y2 q2 j2 = eConv z1 p1 i1 z2 p2 i2 by unfold eConv; rw [funext (hn1.eform g1).2.1, funext (hn2.eform g2).2.1])
  have HG := Lib.hid (And.intro g1 g2)
  have HK := Lib.hid (And.intro k1 k2)
  have HN := Lib.hid (And.intro hn1 hn2)
  have HLL := Lib.hid hLL
  have HM := Lib.hid hM
  obtain ⟨W, hW⟩ : ∃ W, ((w.alloc (.cells #[.slice a1 n1 cap1, .int .i64 p1, .int .i64 i1] 24)).alloc (.cells #[.slice a2 n2 cap2, .int .i64 p2, .int .i64 i2] 24)).alloc (.cells #[.slice none 0 0, .int .i64 0, .int .i64 0, .int .i64 0, .slice none 0 0] 40) = W := ⟨_, rfl⟩
  have hB : Below w.heap.size w W := by rw [← hW]; exact (((Below.refl _ _).alloc (Nat.le_refl _) _).alloc (by simp) _).alloc (by simp; omega) _
  have m1 : Cur3 W w.heap.size (.slice a1 n1 cap1) (.int .i64 p1) (.int .i64 i1) := by rw [← hW]; exact ((Cur3.new w _ _ _ _).alloc _).alloc _
  have m2 : Cur3 W (w.heap.size + 1) (.slice a2 n2 cap2) (.int .i64 p2) (.int .i64 i2) := by rw [← hW]; exact (Cur3.new2 w _ _ _ _ _).alloc _
  have mr : Cert5 W (w.heap.size + 2) (.slice none 0 0) (.int .i64 0) (.int .i64 0) (.int .i64 0) (.slice none 0 0) := by
    rw [← hW]
    have := cert5_new ((w.alloc (.cells #[.slice a1 n1 cap1, .int .i64 p1, .int .i64 i1] 24)).alloc (.cells #[.slice a2 n2 cap2, .int .i64 p2, .int .i64 i2] 24)) (.slice none 0 0) (.int .i64 0) (.int .i64 0) (.int .i64 0) (.slice none 0 0) 40
    simpa using this
  have HB := Lib.hid hB
  have KC := Lib.hid mr
  have HR := Lib.hid (And.intro (h1.under hB) (h2.under hB))
  have HW := Lib.hid hW
  obtain ⟨c0, c1, c2, f0, f1, f2⟩ := m1
  obtain ⟨d0, d1, d2, e0, e1, e2⟩ := m2
  clear g1 g2 hn1 hn2 hLL hM k1 k2 h1 h2 hB mr hW
  go_enter Try.func32, Try.ntmps32
  go_upto_region 1 with fail
  try rw [HW.out]
  go_wp2_with fail
  clear c0 c1 c2 f0 f1 f2 d0 d1 d2 e0 e1 e2
  refine (paired_ok a1 n1 cap1 z1 p1 i1 HG.out.1 a2 n2 cap2 z2 p2 i2 HG.out.2 HN.out.1 HN.out.2 L HLL.out hL2 _ HR.out.1 HR.out.2).mono ?_
  rintro e v1 ⟨la, lb, rfl, hb, hr1, hr2⟩
  obtain ⟨W2, hw⟩ : ∃ W2, v1.alloc (.cells #[.slice (some ⟨la, 0, none⟩) 1160 1160, .int .i64 (y1.length - q1 : Nat), .int .i64 (growI y1 q1 j1 L), .slice (some ⟨lb, 0, none⟩) 1160 1160, .int .i64 (y2.length - q2 : Nat), .int .i64 (growI y2 q2 j2 L), .int .i64 L] 68) = W2 := ⟨_, rfl⟩
  have hz : Below v1.heap.size v1 W2 := by rw [← hw]; exact (Below.refl _ _).alloc (Nat.le_refl _) _
  have hWz : Below W.heap.size W W2 := hb.trans (hz.mono hb.size)
  have KC2 := Lib.hid (KC.out.below hWz)
  have HB2 := Lib.hid (HB.out.trans (hWz.mono HB.out.size))
  have HW2 := Lib.hid hw
  clear hb hr1 hr2 hw hz hWz
  obtain ⟨⟨c0, c1, c2, f0, f1, f2⟩, c3, c4, f3, f4⟩ := KC2.out
  go_upto_region 4 with fail
  try rw [HW2.out]
  go_wp2_with fail
  clear c0 c1 c2 f0 f1 f2 c3 c4 f3 f4
  refine (normal_bad none 0 0 [] 0 0 ⟨by omega, by omega⟩ ⟨by omega, by omega⟩ (by decide) _ (rowZ_none _)).mono ?_
  rintro e v2 ⟨rfl, hb2⟩
  have HB3 := Lib.hid ((HB2.out.trans (hb2.mono HB2.out.size)).alloc (Nat.le_trans HB2.out.size hb2.size) (.cells #[.slice none 0 0, .int .i64 0, .int .i64 0] 24))
  clear hb2
  go_wp2_with fail
  go_ret
  exact ⟨rfl, HB3.out⟩

set_option maxRecDepth 100000 in
set_option maxHeartbeats 3200000 in
theorem awake7 (w : World) : Calls Try.prog 14 #[] w (Says (.bool true) w) := by
  obtain ⟨l1, l2, l3⟩ := lits7 w
  have Xf := Lib.hid l1
  have Xg := Lib.hid l2
  have HB := Lib.hid l3
  clear l1 l2 l3
  go_enter Try.func14, Try.ntmps14
  go_wp2_with fail
  generalize ((((w.alloc (.cells #[.int .i64 0] 3)).alloc (.cells #[.int .i64 0] 3)).alloc (.cells #[.slice (some ⟨w.heap.size, 0, none⟩) 1 1, .int .i64 1, .int .i64 3] 24)).alloc (.cells #[.slice (some ⟨w.heap.size + 1, 0, none⟩) 1 1, .int .i64 1, .int .i64 5] 24)) = w0 at Xf Xg HB ⊢
  refine ((cof_ok (some ⟨w.heap.size, 0, none⟩) 1 1 [0] 1 3 e0_good (some ⟨w.heap.size + 1, 0, none⟩) 1 1 [0] 1 5 e5_good 1 (lcm_one e0_good e5_good) (by omega) _ Xf.out.row Xg.out.row).mono fun _ _ h => h.ok ex_can).mono ?_
  rintro e v1 ⟨a1, n1, cap1, z1, p1, i1, rfl, hb, hr, hf, hx⟩
  obtain ⟨w1, hw⟩ : ∃ W, v1.alloc (.cells #[.slice a1 n1 cap1, .int .i64 p1, .int .i64 i1] 24) = W := ⟨_, rfl⟩
  have hz : Below w0.heap.size w0 w1 := by rw [← hw]; exact hb.trans ((below_box _).mono hb.size)
  have Xf_1 := Lib.hid (Xf.out.under hz)
  have Xg_1 := Lib.hid (Xg.out.under hz)
  have HB_1 := Lib.hid (HB.out.trans (hz.mono HB.out.size))
  have Xh_1 := Lib.hid (show Bx w1 v1.heap.size a1 n1 cap1 p1 i1 z1 by rw [← hw]; exact Bx.new hr)
  have HFh := Lib.hid (show EForm z1 p1 i1 (eC [0] 1 3) from ex_conv ▸ hf)
  have HW1 := Lib.hid hw
  clear hb hr hf hx hz hw
  obtain ⟨c0, c1, c2, c3, c4, c5⟩ := Xf_1.out.box
  obtain ⟨d0, d1, d2, d3, d4, d5⟩ := Xg_1.out.box
  go_upto_region 3 with fail
  try rw [HW1.out]
  go_wp2_with fail
  clear c0 c1 c2 c3 c4 c5 d0 d1 d2 d3 d4 d5
  refine (prove_ok (some ⟨w.heap.size, 0, none⟩) 1 1 [0] 1 3 e0_good (some ⟨w.heap.size + 1, 0, none⟩) 1 1 [0] 1 5 e5_good 1 (lcm_one e0_good e5_good) (by omega) _ Xf_1.out.row Xg_1.out.row).mono ?_
  rintro e v2 (⟨a, n, cap, hs, r, knc, F, ab, N, A, y1, q1, j1, y2, q2, j2, rfl, hb, hr, hra, hf, hn1, hn2, hLL, hF, hN, hA, hx⟩ | ⟨_, _, hno⟩)
  rotate_left
  · exact absurd ex_can hno
  obtain ⟨w2, hw⟩ : ∃ W, v2.alloc (.cells #[.slice a n cap, .int .i64 r, .int .i64 knc, .int .i64 F, .slice (some ⟨ab, 0, none⟩) N N] 40) = W := ⟨_, rfl⟩
  have hz2 : Below v2.heap.size v2 w2 := by rw [← hw]; exact below_box _
  have hz : Below w1.heap.size w1 w2 := hb.trans (hz2.mono hb.size)
  have Xf_2 := Lib.hid (Xf_1.out.under hz)
  have Xg_2 := Lib.hid (Xg_1.out.under hz)
  have Xh_2 := Lib.hid (Xh_1.out.under hz)
  have HB_2 := Lib.hid (HB_1.out.trans (hz.mono HB_1.out.size))
  have XC_2 := Lib.hid (show Cert5 w2 v2.heap.size (.slice a n cap) (.int .i64 r) (.int .i64 knc) (.int .i64 F) (.slice (some ⟨ab, 0, none⟩) N N) by rw [← hw]; exact cert5_new v2 _ _ _ _ _ _)
  have RC_2 := Lib.hid (And.intro (hr.under hz2) (hra.under hz2))
  have HCR := Lib.hid (And.intro hf (And.intro (And.intro hn1 hn2) (And.intro hLL (And.intro hF (And.intro hN hA)))))
  have HW2 := Lib.hid hw
  clear hb hr hra hf hn1 hn2 hLL hF hN hA hx hz hz2 hw
  obtain ⟨c0, c1, c2, c3, c4, c5⟩ := Xf_2.out.box
  obtain ⟨d0, d1, d2, d3, d4, d5⟩ := Xg_2.out.box
  obtain ⟨e0, e1, e2, e3, e4, e5⟩ := Xh_2.out.box
  go_upto_region 4 with fail
  try rw [HW2.out]
  go_wp2_with fail
  clear c0 c1 c2 c3 c4 c5 d0 d1 d2 d3 d4 d5 e0 e1 e2 e3 e4 e5
  refine (same_at HFh.out ex_line _ Xh_2.out.row Xf_2.out.row).mono ?_
  rintro e w3 ⟨rfl, hb⟩
  have Xf_3 := Lib.hid (Xf_2.out.under hb)
  have Xg_3 := Lib.hid (Xg_2.out.under hb)
  have HB_3 := Lib.hid (HB_2.out.trans (hb.mono HB_2.out.size))
  have XC_3 := Lib.hid (XC_2.out.below hb)
  have RC_3 := Lib.hid (And.intro (RC_2.out.1.under hb) (RC_2.out.2.under hb))
  clear hb
  obtain ⟨c0, c1, c2, c3, c4, c5⟩ := Xf_3.out.box
  obtain ⟨d0, d1, d2, d3, d4, d5⟩ := Xg_3.out.box
  obtain ⟨⟨k0, k1, k2, k3, k4, k5⟩, k6, k7, k8, k9⟩ := XC_3.out
  go_wp2_with fail
  clear c0 c1 c2 c3 c4 c5 d0 d1 d2 d3 d4 d5 k0 k1 k2 k3 k4 k5 k6 k7 k8 k9
  refine (check_ok (some ⟨w.heap.size, 0, none⟩) 1 1 [0] 1 3 e0_good (some ⟨w.heap.size + 1, 0, none⟩) 1 1 [0] 1 5 e5_good 1 (by omega) HCR.out.2.1.1 HCR.out.2.1.2 HCR.out.2.2.1 a n cap hs r knc F ab N A HCR.out.1 HCR.out.2.2.2.1 HCR.out.2.2.2.2.1 HCR.out.2.2.2.2.2 _ Xf_3.out.row Xg_3.out.row RC_3.out.1 RC_3.out.2).mono ?_
  rintro e w4 ⟨rfl, hb⟩
  have Xf_4 := Lib.hid (Xf_3.out.under hb)
  have Xg_4 := Lib.hid (Xg_3.out.under hb)
  have HB_4 := Lib.hid (HB_3.out.trans (hb.mono HB_3.out.size))
  clear hb
  obtain ⟨c0, c1, c2, c3, c4, c5⟩ := Xf_4.out.box
  obtain ⟨d0, d1, d2, d3, d4, d5⟩ := Xg_4.out.box
  go_wp2_with fail
  clear c0 c1 c2 c3 c4 c5 d0 d1 d2 d3 d4 d5
  refine (check_zero (some ⟨w.heap.size, 0, none⟩) 1 1 [0] 1 3 e0_good (some ⟨w.heap.size + 1, 0, none⟩) 1 1 [0] 1 5 e5_good 1 (lcm_one e0_good e5_good) (by omega) _ Xf_4.out.row Xg_4.out.row).mono ?_
  rintro e w5 ⟨rfl, hb⟩
  have HB_5 := Lib.hid (HB_4.out.trans (hb.mono HB_4.out.size))
  clear hb
  go_wp2_with fail
  go_ret
  exact ⟨rfl, HB_5.out⟩

section
variable (a1 : Option Addr) (n1 cap1 : Nat) (z1 : List Int) (p1 : Nat) (i1 : Int) (g1 : Good z1 p1 i1) (a2 : Option Addr) (n2 cap2 : Nat) (z2 : List Int) (p2 : Nat) (i2 : Int) (g2 : Good z2 p2 i2) (h1 : Day (eC z1 p1 i1)) (h2 : Day (eC z2 p2 i2))
    (w : World) (r1 : RowZ w a1 n1 cap1 z1) (r2 : RowZ w a2 n2 cap2 z2)
include g1 g2 h1 h2 r1 r2
theorem cof_day : Calls Try.prog 22 #[curV a1 n1 cap1 p1 i1, curV a2 n2 cap2 p2 i2] w (GivesE (eConv z1 p1 i1 z2 p2 i2) w) := by
  obtain ⟨L, hL, hl⟩ := lcm_day g1 g2 h1 h2
  exact cof_ok a1 n1 cap1 z1 p1 i1 g1 a2 n2 cap2 z2 p2 i2 g2 L hl hL w r1 r2
end


end Go.Proofs.Ytladmpoopfabdaa

namespace Go.Proofs.Ytladmpoopfabdaa
open Go.RowKit
set_option linter.unusedSimpArgs false
set_option linter.unusedVariables false

set_option maxHeartbeats 400000 in
theorem rlesser_min (a b : Int) (w : World) : Calls Try.prog 116 #[.int .i64 a, .int .i64 b, .bool true] w fun e w' => e = .returned (.int .i64 (min a b)) ∧ w' = w := by
  by_cases h : a ≤ b
  · have e : min a b = a := by omega
    rw [e]
    go_enter Try.func116, Try.ntmps116
    go_wp2_with fail
    all_goals go_ret
    all_goals exact ⟨ret_int (by omega), rfl⟩
  · have e : min a b = b := by omega
    rw [e]
    go_enter Try.func116, Try.ntmps116
    go_wp2_with fail
    all_goals go_ret
    all_goals exact ⟨ret_int (by omega), rfl⟩

set_option maxRecDepth 100000 in
set_option maxHeartbeats 1600000 in
theorem rslopes (b1 : Option Addr) (m1 c1 q1 : Nat) (j1 : Int) (b2 : Option Addr) (m2 c2 q2 : Nat) (j2 : Int) (L k1 k2 : Nat) (x1 x2 : Int) (hkq1 : (L : Int).tdiv (q1 : Int) = (k1 : Int)) (hkz1 : ¬ (q1 : Int) = 0) (hkn1 : ¬ q1 = 0) (hkd1 : (L : Int) / (q1 : Int) = (k1 : Int)) (hxw1 : IntKind.i64.wrap (j1 * (k1 : Int)) = x1) (hxx1 : IntKind.i64.wrap x1 = x1) (hkw1 : IntKind.i64.wrap (k1 : Int) = (k1 : Int)) (hkq2 : (L : Int).tdiv (q2 : Int) = (k2 : Int)) (hkz2 : ¬ (q2 : Int) = 0) (hkn2 : ¬ q2 = 0) (hkd2 : (L : Int) / (q2 : Int) = (k2 : Int)) (hxw2 : IntKind.i64.wrap (j2 * (k2 : Int)) = x2) (hxx2 : IntKind.i64.wrap x2 = x2) (hkw2 : IntKind.i64.wrap (k2 : Int) = (k2 : Int)) (hb1 : 0 ≤ x1 ∧ x1 ≤ 128849018880) (hb2 : 0 ≤ x2 ∧ x2 ≤ 128849018880) (w : World) :
    Calls Try.prog 88 #[curV b1 m1 c1 q1 j1, curV b2 m2 c2 q2 j2, .int .i64 L] w (Says (.int .i64 (x1 - x2)) w) := by
  obtain ⟨W, hW⟩ : ∃ W, (w.alloc (.cells #[.slice b1 m1 c1, .int .i64 q1, .int .i64 j1] 24)).alloc (.cells #[.slice b2 m2 c2, .int .i64 q2, .int .i64 j2] 24) = W := ⟨_, rfl⟩
  have hB : Below w.heap.size w W := by rw [← hW]; exact ((Below.refl _ _).alloc (Nat.le_refl _) _).alloc (by simp) _
  have k1' : Cur3 W w.heap.size (.slice b1 m1 c1) (.int .i64 q1) (.int .i64 j1) := by rw [← hW]; exact (Cur3.new w _ _ _ _).alloc _
  have k2' : Cur3 W (w.heap.size + 1) (.slice b2 m2 c2) (.int .i64 q2) (.int .i64 j2) := by rw [← hW]; exact Cur3.new2 w _ _ _ _ _
  have HB := Lib.hid hB
  have HW := Lib.hid hW
  obtain ⟨g0, g1, g2, g3, g4, g5⟩ := k1'
  obtain ⟨d0, d1, d2, d3, d4, d5⟩ := k2'
  obtain ⟨hb1a, hb1b⟩ := hb1
  obtain ⟨hb2a, hb2b⟩ := hb2
  have hxs : IntKind.i64.wrap (x1 - x2) = x1 - x2 := IntWalk.i64_in _ ⟨by omega, by omega⟩
  clear hB hW
  go_enter Try.func88, Try.ntmps88
  go_upto_region 1 with fail
  try rw [HW.out]
  go_quiet (fail)
  go_wp2_with fail
  go_ret
  exact ⟨rfl, HB.out.drewN _⟩

/-- What stands behind the list. -/
structure EX (w : World) (A O R : Nat) (b1 : Option Addr) (m1 c1 q1 : Nat) (j1 : Int) (y1 : List Int) (b2 : Option Addr) (m2 c2 q2 : Nat) (j2 : Int) (y2 : List Int) (L g cap M : Nat) (f : Nat → Int) (inc : Int) (u : World) : Prop where
  xa : Bx u A b1 m1 c1 q1 j1 y1
  xb : Bx u (A + 1) b2 m2 c2 q2 j2 y2
  out : Cur3 u O (.slice (some ⟨g, 0, none⟩) M cap) (.int .i64 L) (.int .i64 inc)
  row : RowZ u (some ⟨g, 0, none⟩) M cap (firsts f M)
  res : Cur3 u R (.slice none 0 0) (.int .i64 0) (.int .i64 0)
  below : Below w.heap.size w u
  n1 : A + 1 < O
  n2 : R < A
  n3 : O < g
  n4 : ∀ x, b1 = some x → 1 ≤ m1 → x.block < O
  n5 : ∀ x, b2 = some x → 1 ≤ m2 → x.block < O
  n6 : w.heap.size ≤ R
section
variable {w u v : World} {A O R : Nat} {b1 : Option Addr} {m1 c1 q1 : Nat} {j1 : Int} {y1 : List Int} {b2 : Option Addr} {m2 c2 q2 : Nat} {j2 : Int} {y2 : List Int} {L g cap M : Nat} {f : Nat → Int} {inc : Int}
theorem EX.call (h : EX w A O R b1 m1 c1 q1 j1 y1 b2 m2 c2 q2 j2 y2 L g cap M f inc u) (hb : Below u.heap.size u v) : EX w A O R b1 m1 c1 q1 j1 y1 b2 m2 c2 q2 j2 y2 L g cap M f inc v :=
  ⟨h.xa.under hb, h.xb.under hb, h.out.below hb, h.row.under hb, h.res.below hb, h.below.trans (hb.mono h.below.size), h.n1, h.n2, h.n3, h.n4, h.n5, h.n6⟩
theorem EX.put (h : EX w A O R b1 m1 c1 q1 j1 y1 b2 m2 c2 q2 j2 y2 L g cap M f inc u) (x : Int) : EX w A O R b1 m1 c1 q1 j1 y1 b2 m2 c2 q2 j2 y2 L g cap M f x (u.setCell ⟨O, 2, none⟩ (.int .i64 x)) := by
  have n1 := h.n1; have n2 := h.n2; have n3 := h.n3; have n6 := h.n6
  refine ⟨⟨h.xa.box.other (by omega) _ _, h.xa.row.store (fun y hy hn => by have := h.n4 y hy hn; omega) _ _⟩, ⟨h.xb.box.other (by omega) _ _, h.xb.row.store (fun y hy hn => by have := h.n5 y hy hn; omega) _ _⟩, h.out.set2 _, h.row.store (fun y hy _ => by cases hy; show g ≠ O; omega) _ _, h.res.other (by omega) _ _, h.below.setCell (p := ⟨O, 2, none⟩) (by show w.heap.size ≤ O; omega) _, h.n1, h.n2, h.n3, h.n4, h.n5, h.n6⟩
end

set_option maxRecDepth 100000 in
set_option maxHeartbeats 12800000 in
theorem rext_min (a1 : Option Addr) (n1 cap1 : Nat) (z1 : List Int) (p1 : Nat) (i1 : Int) (g1 : Good z1 p1 i1) (a2 : Option Addr) (n2 cap2 : Nat) (z2 : List Int) (p2 : Nat) (i2 : Int) (g2 : Good z2 p2 i2) (L : Nat) (hL : LcmN z1 p1 i1 z2 p2 i2 L) (hL2 : L ≤ 120) (w : World) (h1 : RowZ w a1 n1 cap1 z1) (h2 : RowZ w a2 n2 cap2 z2) :
    Calls Try.prog 81 #[curV a1 n1 cap1 p1 i1, curV a2 n2 cap2 p2 i2, .bool true] w (GivesE (eMin z1 p1 i1 z2 p2 i2) w) := by
  obtain ⟨ii0, ihi, ihz0, ihz1, ihz2⟩ := info_parts info_int
  have HG := Lib.hid (And.intro g1 g2)
  have HL := Lib.hid (And.intro hL hL2)
  obtain ⟨W, hW⟩ : ∃ W, ((w.alloc (.cells #[.slice a1 n1 cap1, .int .i64 p1, .int .i64 i1] 24)).alloc (.cells #[.slice a2 n2 cap2, .int .i64 p2, .int .i64 i2] 24)).alloc (.cells #[.slice none 0 0, .int .i64 0, .int .i64 0] 24) = W := ⟨_, rfl⟩
  obtain ⟨⟨hB, hWs⟩, k1, k2, kr⟩ := boxesB w a1 n1 cap1 p1 i1 a2 n2 cap2 p2 i2 hW
  have HB := Lib.hid hB
  have KR := Lib.hid kr
  have HR := Lib.hid (And.intro (h1.under hB) (h2.under hB))
  have HWS := Lib.hid hWs
  have hW1 := hW
  obtain ⟨m0, m1, m2, m3, m4, m5⟩ := k1
  obtain ⟨u0, u1, u2, u3, u4, u5⟩ := k2
  clear h1 h2 hB kr hW hWs g1 g2 hL hL2
  go_enter Try.func81, Try.ntmps81
  go_wp2_with fail
  try rw [hW1]
  clear hW1 m0 m1 m2 m3 m4 m5 u0 u1 u2 u3 u4 u5
  have hn120 : ¬ 120 < L := by have := HL.out.2; omega
  refine (rpair_any a1 n1 cap1 z1 p1 i1 HG.out.1 a2 n2 cap2 z2 p2 i2 HG.out.2 L HL.out.1 L 0 (if_neg hn120).symm (if_neg hn120).symm _ HR.out.1 HR.out.2).mono ?_
  rintro e v1 ⟨b1, m1, c1, y1, q1, j1, b2, m2, c2, y2, q2, j2, rfl, hb, hr1, hr2, hn1, hn2, hx1, hx2⟩
  obtain ⟨W2, hw⟩ : ∃ W2, (v1.alloc (.cells #[.slice b1 m1 c1, .int .i64 q1, .int .i64 j1] 24)).alloc (.cells #[.slice b2 m2 c2, .int .i64 q2, .int .i64 j2] 24) = W2 := ⟨_, rfl⟩
  have hz : Below v1.heap.size v1 W2 := by rw [← hw]; exact ((Below.refl _ _).alloc (Nat.le_refl _) _).alloc (by simp) _
  have hWz : Below W.heap.size W W2 := hb.trans (hz.mono hb.size)
  have KR2 := Lib.hid (KR.out.below hWz)
  have HB2 := Lib.hid (HB.out.trans (hWz.mono HB.out.size))
  have XA := Lib.hid (show Bx W2 v1.heap.size b1 m1 c1 q1 j1 y1 by rw [← hw]; exact (Bx.new hr1).under (box_below _ _))
  have XB := Lib.hid (show Bx W2 (v1.heap.size + 1) b2 m2 c2 q2 j2 y2 by
    rw [← hw]
    have := Bx.new (p := q2) (inc := j2) (hr2.under (box_below v1 (.cells #[.slice b1 m1 c1, .int .i64 q1, .int .i64 j1] 24)))
    simpa using this)
  have GY := Lib.hid (And.intro (hn1.good HG.out.1) (hn2.good HG.out.2))
  have HN := Lib.hid (And.intro hn1 hn2)
  have hLL : q1 / Nat.gcd q1 q2 * q2 = L := by
    obtain ⟨u1, r1, k1, u2, r2, k2, n1, n2, e⟩ := HL.out.1
    obtain ⟨_, rfl, _⟩ := n1.canon HG.out.1 HG.out.1 hn1 (fun _ => rfl)
    obtain ⟨_, rfl, _⟩ := n2.canon HG.out.2 HG.out.2 hn2 (fun _ => rfl)
    exact e
  have HLC := Lib.hid (lcm_of GY.out.1.p1 GY.out.2.p1 hLL)
  have hs1 : w.heap.size + 3 ≤ v1.heap.size := by have := hb.size; have := HWS.out; omega
  have HEQ := Lib.hid (And.intro (hn1.eform HG.out.1).2.1 (hn2.eform HG.out.2).2.1)
  have hw1 := hw
  obtain ⟨A, hA⟩ : ∃ A, v1.heap.size = A := ⟨_, rfl⟩
  rw [hA] at XA XB hs1
  obtain ⟨g0, g1, g2, g3, g4, g5⟩ := XA.out.box
  obtain ⟨d0, d1, d2, d3, d4, d5⟩ := XB.out.box
  have hL1 := HLC.out.one
  have hL120 := HL.out.2
  have q11 := GY.out.1.p1
  have q12 := GY.out.1.p2
  have q21 := GY.out.2.p1
  have q22 := GY.out.2.p2
  have bj1 := GY.out.1.i0
  have bj1' := GY.out.1.i1
  have bj2 := GY.out.2.i0
  have bj2' := GY.out.2.i1
  clear hb hr1 hr2 hn1 hn2 hx1 hx2 hw hz hWz hLL hn120
  obtain ⟨k1, hk1⟩ : ∃ k, L / q1 = k := ⟨_, rfl⟩
  have hk1b : k1 ≤ 120 := by rw [← hk1]; exact Nat.le_trans (Nat.div_le_self _ _) hL120
  have hkq1 : (L : Int).tdiv (q1 : Int) = (k1 : Int) := by rw [Int.tdiv_eq_ediv_of_nonneg (by omega), ← hk1]; exact Int.natCast_ediv _ _
  have hkz1 : ¬ (q1 : Int) = 0 := by omega
  have hkn1 : ¬ q1 = 0 := by omega
  have hkd1 : (L : Int) / (q1 : Int) = (k1 : Int) := by rw [← hk1]; exact (Int.natCast_ediv _ _).symm
  obtain ⟨x1, hx1⟩ : ∃ x, j1 * (k1 : Int) = x := ⟨_, rfl⟩
  have hxb1 : 0 ≤ x1 ∧ x1 ≤ 128849018880 := by
    rw [← hx1]
    have h := Int.mul_le_mul bj1' (show (k1 : Int) ≤ 120 by omega) (by omega) (by omega)
    exact ⟨Int.mul_nonneg bj1 (by omega), by omega⟩
  obtain ⟨hxl1, hxu1⟩ := hxb1
  have hxw1 : IntKind.i64.wrap (j1 * (k1 : Int)) = x1 := by rw [hx1]; exact IntWalk.i64_in _ ⟨by omega, by omega⟩
  have hxx1 : IntKind.i64.wrap x1 = x1 := IntWalk.i64_in _ ⟨by omega, by omega⟩
  have hkw1 : IntKind.i64.wrap (k1 : Int) = (k1 : Int) := IntWalk.i64_in _ ⟨by omega, by omega⟩
  have HK1 := Lib.hid (And.intro hk1 hx1)
  obtain ⟨k2, hk2⟩ : ∃ k, L / q2 = k := ⟨_, rfl⟩
  have hk2b : k2 ≤ 120 := by rw [← hk2]; exact Nat.le_trans (Nat.div_le_self _ _) hL120
  have hkq2 : (L : Int).tdiv (q2 : Int) = (k2 : Int) := by rw [Int.tdiv_eq_ediv_of_nonneg (by omega), ← hk2]; exact Int.natCast_ediv _ _
  have hkz2 : ¬ (q2 : Int) = 0 := by omega
  have hkn2 : ¬ q2 = 0 := by omega
  have hkd2 : (L : Int) / (q2 : Int) = (k2 : Int) := by rw [← hk2]; exact (Int.natCast_ediv _ _).symm
  obtain ⟨x2, hx2⟩ : ∃ x, j2 * (k2 : Int) = x := ⟨_, rfl⟩
  have hxb2 : 0 ≤ x2 ∧ x2 ≤ 128849018880 := by
    rw [← hx2]
    have h := Int.mul_le_mul bj2' (show (k2 : Int) ≤ 120 by omega) (by omega) (by omega)
    exact ⟨Int.mul_nonneg bj2 (by omega), by omega⟩
  obtain ⟨hxl2, hxu2⟩ := hxb2
  have hxw2 : IntKind.i64.wrap (j2 * (k2 : Int)) = x2 := by rw [hx2]; exact IntWalk.i64_in _ ⟨by omega, by omega⟩
  have hxx2 : IntKind.i64.wrap x2 = x2 := IntWalk.i64_in _ ⟨by omega, by omega⟩
  have hkw2 : IntKind.i64.wrap (k2 : Int) = (k2 : Int) := IntWalk.i64_in _ ⟨by omega, by omega⟩
  have HK2 := Lib.hid (And.intro hk2 hx2)
  obtain ⟨f, hf⟩ : ∃ f, encF (eMin y1 q1 j1 y2 q2 j2) = f := ⟨_, rfl⟩
  have HF := Lib.hid hf
  have HEE := Lib.hid (show eMin y1 q1 j1 y2 q2 j2 = eMin z1 p1 i1 z2 p2 i2 from funext fun t => by unfold eMin; rw [HEQ.out.1 t, HEQ.out.2 t])
  have HAO := Lib.hid (show A + 1 < W2.heap.size ∧ w.heap.size + 2 < A ∧ (∀ x, b1 = some x → 1 ≤ m1 → x.block < W2.heap.size) ∧ (∀ x, b2 = some x → 1 ≤ m2 → x.block < W2.heap.size) from ⟨XB.out.box.lt, by omega, XA.out.row.far, XB.out.row.far⟩)
  clear hf
  go_upto_region 4 with fail
  try rw [hw1]
  clear hw1
  have KS4 := Lib.hid (show ∀ u, Below W2.heap.size W2 u → ((u.cell? ⟨A, 0, none⟩ = some (.slice b1 m1 c1) ∧ u.cell? ⟨A, 1, none⟩ = some (.int .i64 q1) ∧ u.cell? ⟨A, 2, none⟩ = some (.int .i64 j1)) ∧ (u.cell? ⟨A + 1, 0, none⟩ = some (.slice b2 m2 c2) ∧ u.cell? ⟨A + 1, 1, none⟩ = some (.int .i64 q2) ∧ u.cell? ⟨A + 1, 2, none⟩ = some (.int .i64 j2))) from fun u hu => by
    have x := XA.out.box.below hu
    have y := XB.out.box.below hu
    exact ⟨⟨x.c0, x.c1, x.c2⟩, y.c0, y.c1, y.c2⟩)
  have O4 := Lib.hid ((Below.refl W2.heap.size W2).drew)
  clear g0 g1 g2 g3 g4 g5 d0 d1 d2 d3 d4 d5
  refine wp_region_keeps (fun u => ((u.cell? ⟨A, 0, none⟩ = some (.slice b1 m1 c1) ∧ u.cell? ⟨A, 1, none⟩ = some (.int .i64 q1) ∧ u.cell? ⟨A, 2, none⟩ = some (.int .i64 j1)) ∧ (u.cell? ⟨A + 1, 0, none⟩ = some (.slice b2 m2 c2) ∧ u.cell? ⟨A + 1, 1, none⟩ = some (.int .i64 q2) ∧ u.cell? ⟨A + 1, 2, none⟩ = some (.int .i64 j2)))) 10 1 (by kernel_rfl) (by kernel_rfl) (KS4.out _ O4.out) (fun hHeld0 => ?_)
  refine wpAnyK_take (i := 0) (v := ?_) rfl (by kernel_rfl) (fun _ _ _ h => h) (Or.inl ⟨by rfl, ?_⟩) (by assumption) ?_
  rotate_left
  · (intro w hSw; (try dsimp only at hSw); go_simp; try with_reducible rfl)
  try simp only [Act.put, List.getElem_toArray, List.getElem_cons_zero, List.getElem_cons_succ, List.setIfInBounds_toArray, List.set_cons_zero, List.set_cons_succ]
  refine wpAnyK_take (i := 1) (v := ?_) rfl (by kernel_rfl) (fun _ _ _ h => h) (Or.inl ⟨by rfl, ?_⟩) (by assumption) ?_
  rotate_left
  · (intro w hSw; (try dsimp only at hSw); go_simp; try with_reducible rfl)
  try simp only [Act.put, List.getElem_toArray, List.getElem_cons_zero, List.getElem_cons_succ, List.setIfInBounds_toArray, List.set_cons_zero, List.set_cons_succ]
  refine wpAnyK_take (i := 2) (v := ?_) rfl (by kernel_rfl) (fun _ _ _ h => h) (Or.inl ⟨by rfl, ?_⟩) (by assumption) ?_
  rotate_left
  · (intro w hSw; (try dsimp only at hSw); go_simp; try with_reducible rfl)
  try simp only [Act.put, List.getElem_toArray, List.getElem_cons_zero, List.getElem_cons_succ, List.setIfInBounds_toArray, List.set_cons_zero, List.set_cons_succ]
  refine wpAnyK_take (i := 3) (v := ?_) rfl (by kernel_rfl) (fun _ _ _ h => h) (Or.inl ⟨by rfl, ?_⟩) (by assumption) ?_
  rotate_left
  · (intro w hSw; (try dsimp only at hSw); go_simp; try with_reducible rfl)
  try simp only [Act.put, List.getElem_toArray, List.getElem_cons_zero, List.getElem_cons_succ, List.setIfInBounds_toArray, List.set_cons_zero, List.set_cons_succ]
  refine wpAnyK_take (i := 4) (v := ?_) rfl (by kernel_rfl) (fun _ _ _ h => h) (Or.inl ⟨by rfl, ?_⟩) (by assumption) ?_
  rotate_left
  · (intro w hSw; (try dsimp only at hSw); go_simp; try with_reducible rfl)
  try simp only [Act.put, List.getElem_toArray, List.getElem_cons_zero, List.getElem_cons_succ, List.setIfInBounds_toArray, List.set_cons_zero, List.set_cons_succ]
  refine wpAnyK_take (i := 5) (v := ?_) rfl (by kernel_rfl) (fun _ _ _ h => h) (Or.inl ⟨by rfl, ?_⟩) (by assumption) ?_
  rotate_left
  · (intro w hSw; (try dsimp only at hSw); go_simp; try with_reducible rfl)
  try simp only [Act.put, List.getElem_toArray, List.getElem_cons_zero, List.getElem_cons_succ, List.setIfInBounds_toArray, List.set_cons_zero, List.set_cons_succ]
  refine wpAnyK_take (i := 6) (v := ?_) rfl (by kernel_rfl) (fun _ _ _ h => h) (Or.inl ⟨by rfl, ?_⟩) (by assumption) ?_
  rotate_left
  · (intro w hSw; (try dsimp only at hSw); go_simp; try with_reducible rfl)
  try simp only [Act.put, List.getElem_toArray, List.getElem_cons_zero, List.getElem_cons_succ, List.setIfInBounds_toArray, List.set_cons_zero, List.set_cons_succ]
  refine wpAnyK_take (i := 7) (v := ?_) rfl (by kernel_rfl) (fun _ _ _ h => h) (Or.inl ⟨by rfl, ?_⟩) (by assumption) ?_
  rotate_left
  · (intro w hSw; (try dsimp only at hSw); go_simp; try with_reducible rfl)
  try simp only [Act.put, List.getElem_toArray, List.getElem_cons_zero, List.getElem_cons_succ, List.setIfInBounds_toArray, List.set_cons_zero, List.set_cons_succ]
  refine wpAnyK_take (i := 8) (v := ?_) rfl (by kernel_rfl) (fun _ _ _ h => h) (Or.inl ⟨by rfl, ?_⟩) (by assumption) ?_
  rotate_left
  · (intro w hSw; (try dsimp only at hSw); go_simp; try with_reducible rfl)
  try simp only [Act.put, List.getElem_toArray, List.getElem_cons_zero, List.getElem_cons_succ, List.setIfInBounds_toArray, List.set_cons_zero, List.set_cons_succ]
  refine wpAnyK_step (i := 9) rfl (by kernel_rfl) (fun K hK => ?_)
  go_simp
  refine hK.out _ _ (KS4.out _ (O4.out.alloc O4.out.size _)) (fun hHeld1 => ?_)
  clear hK K hHeld0
  try simp only [Act.put, List.getElem_toArray, List.getElem_cons_zero, List.getElem_cons_succ, List.setIfInBounds_toArray, List.set_cons_zero, List.set_cons_succ]
  refine wpAnyK_done (by kernel_rfl) ?_
  simp only [List.drop_succ_cons, List.drop_zero]
  clear hHeld1
  have XA3 := XA
  have XB3 := XB
  have KR3 := KR2
  have HB3 := HB2
  clear KR2 HB2 XA XB KS4 O4
  have L0 := Lib.hid (Ap.start W2 (L : Int) (x1) f).drew
  have KS8 := Lib.hid (show ∀ (sv : Value) (k : Nat) (u : World), Ap W2 (L : Int) (x1) f k sv u → (((u.cell? ⟨A, 0, none⟩ = some (.slice b1 m1 c1) ∧ u.cell? ⟨A, 1, none⟩ = some (.int .i64 q1) ∧ u.cell? ⟨A, 2, none⟩ = some (.int .i64 j1)) ∧ (u.cell? ⟨A + 1, 0, none⟩ = some (.slice b2 m2 c2) ∧ u.cell? ⟨A + 1, 1, none⟩ = some (.int .i64 q2) ∧ u.cell? ⟨A + 1, 2, none⟩ = some (.int .i64 j2))) ∧ u.cell? ⟨W2.heap.size, 0, none⟩ = some sv) from fun sv k u hu => by
    have x := XA3.out.box.below hu.below
    have y := XB3.out.box.below hu.below
    exact ⟨⟨⟨x.c0, x.c1, x.c2⟩, y.c0, y.c1, y.c2⟩, hu.out.c0⟩)
  go_wp2_with fail
  obtain ⟨MM, hMM⟩ : ∃ m, 400 + L = m := ⟨_, rfl⟩
  have HMC := Lib.hid hMM
  have hMMb1 : L ≤ MM := by omega
  have hMMb2 : MM ≤ 520 := by omega
  have hMMb3 : 1 ≤ MM := by omega
  have HIN := Lib.hid (show ∀ t, t < MM → In64 (f t) from fun t ht => by
    have h := (min_pair GY.out.1 GY.out.2).mid t (by omega)
    rw [HF.out] at h
    exact ⟨by have := h.bd; omega, by have := h.bd; omega⟩)
  clear hMM
  go_loopw [13] (fun sl wx => ∃ (k : Nat) (sv : Value), sl = .int .i64 k ∧ k ≤ MM ∧ Hid (Ap W2 (L : Int) (x1) f k sv wx)) (fun sl _ => MM - (intOf sl).toNat)
  case atStart => exact ⟨0, .slice none 0 0, by go_num, by omega, L0⟩
  case round =>
    obtain ⟨k, sv, rfl, hk, HS⟩ := hrel
    obtain ⟨wk, rfl⟩ : ∃ u : World, u = wr := ⟨_, rfl⟩
    obtain ⟨g0, g1, g2, g3, g4, g5⟩ := XA3.out.box.below HS.out.below
    obtain ⟨d0, d1, d2, d3, d4, d5⟩ := XB3.out.box.below HS.out.below
    by_cases hlt : k < MM
    · have hlti : (k : Int) < 400 + (L : Int) := by have := HMC.out; omega
      obtain ⟨vx, hvx⟩ : ∃ v, atC y1 q1 j1 k = v := ⟨_, rfl⟩
      obtain ⟨vy, hvy⟩ : ∃ v, atC y2 q2 j2 k = v := ⟨_, rfl⟩
      have MX := Lib.hid (show Mid vx by rw [← hvx]; exact at_mid GY.out.1 (by omega))
      have MY := Lib.hid (show Mid vy by rw [← hvy]; exact at_mid GY.out.2 (by omega))
      have HVX := Lib.hid hvx
      have HVY := Lib.hid hvy
      obtain ⟨vv, hvv⟩ : ∃ v, min vx vy = v := ⟨_, rfl⟩
      have HVV := Lib.hid (show f k = vv by rw [← hvv, ← HVX.out, ← HVY.out, ← HF.out]; exact min_val GY.out.1 GY.out.2 (by omega))
      have HVW := Lib.hid hvv
      clear hvv
      have HS0 := Lib.hid HS.out.drew
      clear hvx hvy
      go_upto_region 8 with fail
      clear g0 g1 g2 g3 g4 g5 d0 d1 d2 d3 d4 d5
      refine wp_region_keeps (fun u => (((u.cell? ⟨A, 0, none⟩ = some (.slice b1 m1 c1) ∧ u.cell? ⟨A, 1, none⟩ = some (.int .i64 q1) ∧ u.cell? ⟨A, 2, none⟩ = some (.int .i64 j1)) ∧ (u.cell? ⟨A + 1, 0, none⟩ = some (.slice b2 m2 c2) ∧ u.cell? ⟨A + 1, 1, none⟩ = some (.int .i64 q2) ∧ u.cell? ⟨A + 1, 2, none⟩ = some (.int .i64 j2))) ∧ u.cell? ⟨W2.heap.size, 0, none⟩ = some sv)) 11 3 (by kernel_rfl) (by kernel_rfl) (KS8.out _ _ _ HS0.out) (fun hHeld0 => ?_)
      refine wpAnyK_take (i := 0) (v := ?_) rfl (by kernel_rfl) (fun _ _ _ h => h) (Or.inl ⟨by rfl, ?_⟩) (by assumption) ?_
      rotate_left
      · (intro w hSw; (try dsimp only at hSw); go_simp; try with_reducible rfl)
      try simp only [Act.put, List.getElem_toArray, List.getElem_cons_zero, List.getElem_cons_succ, List.setIfInBounds_toArray, List.set_cons_zero, List.set_cons_succ]
      refine wpAnyK_take (i := 1) (v := ?_) rfl (by kernel_rfl) (fun _ _ _ h => h) (Or.inl ⟨by rfl, ?_⟩) (by assumption) ?_
      rotate_left
      · (intro w hSw; (try dsimp only at hSw); go_simp; try with_reducible rfl)
      try simp only [Act.put, List.getElem_toArray, List.getElem_cons_zero, List.getElem_cons_succ, List.setIfInBounds_toArray, List.set_cons_zero, List.set_cons_succ]
      refine wpAnyK_take (i := 2) (v := ?_) rfl (by kernel_rfl) (fun _ _ _ h => h) (Or.inl ⟨by rfl, ?_⟩) (by assumption) ?_
      rotate_left
      · (intro w hSw; (try dsimp only at hSw); go_simp; try with_reducible rfl)
      try simp only [Act.put, List.getElem_toArray, List.getElem_cons_zero, List.getElem_cons_succ, List.setIfInBounds_toArray, List.set_cons_zero, List.set_cons_succ]
      refine wpAnyK_take (i := 3) (v := ?_) rfl (by kernel_rfl) (fun _ _ _ h => h) (Or.inl ⟨by rfl, ?_⟩) (by assumption) ?_
      rotate_left
      · (intro w hSw; (try dsimp only at hSw); go_simp; try with_reducible rfl)
      try simp only [Act.put, List.getElem_toArray, List.getElem_cons_zero, List.getElem_cons_succ, List.setIfInBounds_toArray, List.set_cons_zero, List.set_cons_succ]
      refine wpAnyK_take (i := 5) (v := ?_) rfl (by kernel_rfl) (fun _ _ _ h => h) (Or.inl ⟨by rfl, ?_⟩) (by assumption) ?_
      rotate_left
      · (intro w hSw; (try dsimp only at hSw); go_simp; try with_reducible rfl)
      try simp only [Act.put, List.getElem_toArray, List.getElem_cons_zero, List.getElem_cons_succ, List.setIfInBounds_toArray, List.set_cons_zero, List.set_cons_succ]
      refine wpAnyK_take (i := 6) (v := ?_) rfl (by kernel_rfl) (fun _ _ _ h => h) (Or.inl ⟨by rfl, ?_⟩) (by assumption) ?_
      rotate_left
      · (intro w hSw; (try dsimp only at hSw); go_simp; try with_reducible rfl)
      try simp only [Act.put, List.getElem_toArray, List.getElem_cons_zero, List.getElem_cons_succ, List.setIfInBounds_toArray, List.set_cons_zero, List.set_cons_succ]
      refine wpAnyK_take (i := 8) (v := ?_) rfl (by kernel_rfl) (fun _ _ _ h => h) (Or.inl ⟨by rfl, ?_⟩) (by assumption) ?_
      rotate_left
      · (intro w hSw; (try dsimp only at hSw); go_simp; try with_reducible rfl)
      try simp only [Act.put, List.getElem_toArray, List.getElem_cons_zero, List.getElem_cons_succ, List.setIfInBounds_toArray, List.set_cons_zero, List.set_cons_succ]
      refine wpAnyK_step (i := 4) rfl (by kernel_rfl) (fun K hK => ?_)
      go_simp
      with_reducible refine (rat_at b1 m1 c1 y1 q1 j1 GY.out.1 _ k rfl (by omega) vx HVX.out _ (XA3.out.row.under HS0.out.below)).mono ?_
      rintro e u1 ⟨rfl, hb⟩
      have HS1 := Lib.hid (HS0.out.under hb)
      clear hb
      refine hK.out _ _ (KS8.out _ _ _ HS1.out) (fun hHeld1 => ?_)
      clear hK K hHeld0
      try simp only [Act.put, List.getElem_toArray, List.getElem_cons_zero, List.getElem_cons_succ, List.setIfInBounds_toArray, List.set_cons_zero, List.set_cons_succ]
      refine wpAnyK_step (i := 7) rfl (by kernel_rfl) (fun K hK => ?_)
      go_simp
      with_reducible refine (rat_at b2 m2 c2 y2 q2 j2 GY.out.2 _ k rfl (by omega) vy HVY.out _ (XB3.out.row.under HS1.out.below)).mono ?_
      rintro e u2 ⟨rfl, hb⟩
      have HS2 := Lib.hid (HS1.out.under hb)
      clear hb
      refine hK.out _ _ (KS8.out _ _ _ HS2.out) (fun hHeld2 => ?_)
      clear hK K hHeld1
      try simp only [Act.put, List.getElem_toArray, List.getElem_cons_zero, List.getElem_cons_succ, List.setIfInBounds_toArray, List.set_cons_zero, List.set_cons_succ]
      refine wpAnyK_step (i := 9) rfl (by kernel_rfl) (fun K hK => ?_)
      go_simp
      with_reducible refine (rlesser_min vx vy _).mono ?_
      rintro e ux ⟨rfl, rfl⟩
      rw [HVW.out]
      refine hK.out _ _ (KS8.out _ _ _ HS2.out) (fun hHeld3 => ?_)
      clear hK K hHeld2
      try simp only [Act.put, List.getElem_toArray, List.getElem_cons_zero, List.getElem_cons_succ, List.setIfInBounds_toArray, List.set_cons_zero, List.set_cons_succ]
      obtain ⟨w7, hw7⟩ : ∃ u : World, u = ux := ⟨_, rfl⟩
      refine wpAnyK_step (i := 10) rfl (by kernel_rfl) (fun K hK => ?_)
      go_simp
      refine hK.out _ _ (KS8.out _ _ _ (HS2.out.alloc _)) (fun hHeldb => ?_)
      clear hK K hHeld3
      try simp only [Act.put, List.getElem_toArray, List.getElem_cons_zero, List.getElem_cons_succ, List.setIfInBounds_toArray, List.set_cons_zero, List.set_cons_succ]
      refine wpAnyK_done (by kernel_rfl) ?_
      simp only [List.drop_succ_cons, List.drop_zero]
      clear hHeldb
      subst hw7
      have L7 := HS2
      have N8 : Hid (∀ j u, [Value.int .i64 vv][j]? = some u → (w7.alloc (.cells #[.int .i64 vv] 3)).cell? ((⟨w7.heap.size, 0, none⟩ : Addr).add j) = some u) := Lib.hid (World.news_of_block (cs := #[.int .i64 vv]) (t := 3) (fr := (0, 0)) (heap_alloc_new w7 _))
      have L8 := Lib.hid (L7.out.alloc (.cells #[.int .i64 vv] 3))
      have hlt8 : W2.heap.size + 1 ≤ w7.heap.size := L7.out.out.lt
      generalize w7.alloc (.cells #[.int .i64 vv] 3) = w8 at L8 N8 ⊢
      go_wp2_with (at_builtin; refine wpList_append_own _ rfl _ _ 22 rfl (W2.heap.size + 1) 3 ii0 (.int .i64 0) 1 8 Try.underlying22 ihi ihz0 ihz1 ihz2 rfl (by decide) _ _ _ rfl L8.out.own ⟨w7.heap.size, 0, none⟩ 1 1 [.int .i64 vv] rfl rfl N8.out ?c2 ?c3 ?c4 ?c5 ?_)
      case c2 => intro u hu; simp at hu; subst hu; rfl
      case c3 => unfold maxLen; omega
      case c4 => omega
      case c5 => exact L8.out.out.lt
      intro v' w9 hown' hgrow _
      obtain ⟨g9, cap9, rfl, hg9, hg9'⟩ := hown'.form (Nat.succ_pos _)
      obtain ⟨lnext, kout⟩ := L8.out.push hown' hgrow HVV.out
      have L10 := Lib.hid lnext
      clear hown' hgrow lnext
      obtain ⟨o0, o1, o2, o3, o4, o5⟩ := kout
      go_wp2_with fail
      go_roundw
      case rel => exact ⟨k + 1, _, by go_num, by omega, L10⟩
      case measure => simp [intOf]; omega
    · have hlti : ¬ (k : Int) < 400 + (L : Int) := by have := HMC.out; omega
      obtain rfl : k = MM := by omega
      obtain ⟨g, cap, rfl, RL, XL⟩ := HS.out.row (by omega) (by omega) HIN.out
      have RLAST := Lib.hid RL
      have HBL := Lib.hid (HB3.out.trans (HS.out.below.mono HB3.out.size))
      have KRL := Lib.hid (KR3.out.below HS.out.below)
      obtain ⟨o0, o1, o2, o3, o4, o5⟩ := HS.out.out
      clear RL
      go_wp2_with fail
      have E0 := Lib.hid (show EX w A W2.heap.size (w.heap.size + 2) b1 m1 c1 q1 j1 y1 b2 m2 c2 q2 j2 y2 L g cap k f x1 wk from ⟨XA3.out.under HS.out.below, XB3.out.under HS.out.below, HS.out.out, RLAST.out, KRL.out, HBL.out, HAO.out.1, HAO.out.2.1, XL, fun x hx hn => HAO.out.2.2.1 x hx hn, fun x hx hn => HAO.out.2.2.2 x hx hn, by omega⟩)
      clear HS RLAST KRL HBL
      by_cases hI1 : InfC y1
      · have HI1 := Lib.hid hI1
        refine (rfinite_any b1 m1 c1 y1 q1 j1 ⟨by omega, by omega⟩ ⟨by omega, by omega⟩ false (finB_inf HI1.out) _ E0.out.xa.row).mono ?_
        rintro e wxE1 ⟨rfl, hb⟩
        have E1 := Lib.hid (E0.out.call hb)
        clear hb
        clear hI1 g0 g1 g2 g3 g4 g5 d0 d1 d2 d3 d4 d5 o0 o1 o2 o3 o4 o5
        have E1d := Lib.hid (E1.out.call (Below.refl _ _).drew)
        have KSE5 := Lib.hid (show ∀ u, EX w A W2.heap.size (w.heap.size + 2) b1 m1 c1 q1 j1 y1 b2 m2 c2 q2 j2 y2 L g cap k f x1 u → (fun u => u.cell? ⟨A, 0, none⟩ = some (.slice b1 m1 c1) ∧ u.cell? ⟨A, 1, none⟩ = some (.int .i64 q1) ∧ u.cell? ⟨A, 2, none⟩ = some (.int .i64 j1) ∧ u.cell? ⟨A + 1, 0, none⟩ = some (.slice b2 m2 c2) ∧ u.cell? ⟨A + 1, 1, none⟩ = some (.int .i64 q2) ∧ u.cell? ⟨A + 1, 2, none⟩ = some (.int .i64 j2) ∧ Hid (EX w A W2.heap.size (w.heap.size + 2) b1 m1 c1 q1 j1 y1 b2 m2 c2 q2 j2 y2 L g cap k f x1 u)) u from fun u hu => ⟨hu.xa.box.c0, hu.xa.box.c1, hu.xa.box.c2, hu.xb.box.c0, hu.xb.box.c1, hu.xb.box.c2, hu⟩)
        go_upto_region 19 with fail
        refine wp_region_keeps (fun u => u.cell? ⟨A, 0, none⟩ = some (.slice b1 m1 c1) ∧ u.cell? ⟨A, 1, none⟩ = some (.int .i64 q1) ∧ u.cell? ⟨A, 2, none⟩ = some (.int .i64 j1) ∧ u.cell? ⟨A + 1, 0, none⟩ = some (.slice b2 m2 c2) ∧ u.cell? ⟨A + 1, 1, none⟩ = some (.int .i64 q2) ∧ u.cell? ⟨A + 1, 2, none⟩ = some (.int .i64 j2) ∧ Hid (EX w A W2.heap.size (w.heap.size + 2) b1 m1 c1 q1 j1 y1 b2 m2 c2 q2 j2 y2 L g cap k f x1 u)) 8 1 (by kernel_rfl) (by kernel_rfl) (KSE5.out _ E1d.out) (fun hHeld0 => ?_)
        refine wpAnyK_take (i := 0) (v := ?_) rfl (by kernel_rfl) (fun _ _ _ h => h) (Or.inl ⟨by rfl, ?_⟩) (by assumption) ?_
        rotate_left
        · (intro w hSw; (try dsimp only at hSw); go_simp; try with_reducible rfl)
        try simp only [Act.put, List.getElem_toArray, List.getElem_cons_zero, List.getElem_cons_succ, List.setIfInBounds_toArray, List.set_cons_zero, List.set_cons_succ]
        refine wpAnyK_take (i := 1) (v := ?_) rfl (by kernel_rfl) (fun _ _ _ h => h) (Or.inl ⟨by rfl, ?_⟩) (by assumption) ?_
        rotate_left
        · (intro w hSw; (try dsimp only at hSw); go_simp; try with_reducible rfl)
        try simp only [Act.put, List.getElem_toArray, List.getElem_cons_zero, List.getElem_cons_succ, List.setIfInBounds_toArray, List.set_cons_zero, List.set_cons_succ]
        refine wpAnyK_take (i := 2) (v := ?_) rfl (by kernel_rfl) (fun _ _ _ h => h) (Or.inl ⟨by rfl, ?_⟩) (by assumption) ?_
        rotate_left
        · (intro w hSw; (try dsimp only at hSw); go_simp; try with_reducible rfl)
        try simp only [Act.put, List.getElem_toArray, List.getElem_cons_zero, List.getElem_cons_succ, List.setIfInBounds_toArray, List.set_cons_zero, List.set_cons_succ]
        refine wpAnyK_take (i := 3) (v := ?_) rfl (by kernel_rfl) (fun _ _ _ h => h) (Or.inl ⟨by rfl, ?_⟩) (by assumption) ?_
        rotate_left
        · (intro w hSw; (try dsimp only at hSw); go_simp; try with_reducible rfl)
        try simp only [Act.put, List.getElem_toArray, List.getElem_cons_zero, List.getElem_cons_succ, List.setIfInBounds_toArray, List.set_cons_zero, List.set_cons_succ]
        refine wpAnyK_take (i := 4) (v := ?_) rfl (by kernel_rfl) (fun _ _ _ h => h) (Or.inl ⟨by rfl, ?_⟩) (by assumption) ?_
        rotate_left
        · (intro w hSw; (try dsimp only at hSw); go_simp; try with_reducible rfl)
        try simp only [Act.put, List.getElem_toArray, List.getElem_cons_zero, List.getElem_cons_succ, List.setIfInBounds_toArray, List.set_cons_zero, List.set_cons_succ]
        refine wpAnyK_take (i := 5) (v := ?_) rfl (by kernel_rfl) (fun _ _ _ h => h) (Or.inl ⟨by rfl, ?_⟩) (by assumption) ?_
        rotate_left
        · (intro w hSw; (try dsimp only at hSw); go_simp; try with_reducible rfl)
        try simp only [Act.put, List.getElem_toArray, List.getElem_cons_zero, List.getElem_cons_succ, List.setIfInBounds_toArray, List.set_cons_zero, List.set_cons_succ]
        refine wpAnyK_take (i := 6) (v := ?_) rfl (by kernel_rfl) (fun _ _ _ h => h) (Or.inl ⟨by rfl, ?_⟩) (by assumption) ?_
        rotate_left
        · (intro w hSw; (try dsimp only at hSw); go_simp; try with_reducible rfl)
        try simp only [Act.put, List.getElem_toArray, List.getElem_cons_zero, List.getElem_cons_succ, List.setIfInBounds_toArray, List.set_cons_zero, List.set_cons_succ]
        refine wpAnyK_take (i := 7) (v := ?_) rfl (by kernel_rfl) (fun _ _ _ h => h) (Or.inl ⟨by rfl, ?_⟩) (by assumption) ?_
        rotate_left
        · (intro w hSw; (try dsimp only at hSw); go_simp; try with_reducible rfl)
        try simp only [Act.put, List.getElem_toArray, List.getElem_cons_zero, List.getElem_cons_succ, List.setIfInBounds_toArray, List.set_cons_zero, List.set_cons_succ]
        refine wpAnyK_done (by kernel_rfl) ?_
        simp only [List.drop_succ_cons, List.drop_zero]
        clear hHeld0
        obtain ⟨ws, hws⟩ : ∃ W, (wxE1.setCell ⟨W2.heap.size, 2, none⟩ (.int .i64 x2)).drew = W := ⟨_, rfl⟩
        have E5 := Lib.hid (show EX w A W2.heap.size (w.heap.size + 2) b1 m1 c1 q1 j1 y1 b2 m2 c2 q2 j2 y2 L g cap k f x2 ws by rw [← hws]; exact (E1.out.put x2).call (Below.refl _ _).drew)
        have HWSS := Lib.hid hws
        obtain ⟨o0, o1, o2, o3, o4, o5⟩ := E1d.out.out
        clear hws
        go_upto_region 21 with fail
        try rw [HWSS.out]
        clear o0 o1 o2 o3 o4 o5
        have HRAW := Lib.hid (show RawE (firsts f k) L x2 (eMin y1 q1 j1 y2 q2 j2) from by have h := min_raw GY.out.1 GY.out.2 HLC.out hL120 (fun h _ => absurd HI1.out h); rw [HF.out, HMC.out] at h; unfold incMin at h; rw [if_pos HI1.out, HK2.out.1, HK2.out.2] at h; exact h)
        have RLAST := Lib.hid E5.out.row
        have HBL := Lib.hid E5.out.below
        have KRL := Lib.hid E5.out.res
        obtain ⟨o0, o1, o2, o3, o4, o5⟩ := E5.out.out
        go_wp2_with fail
        clear o0 o1 o2 o3 o4 o5
        refine (rmade_ok _ _ _ _ _ _ HRAW.out _ RLAST.out).mono ?_
        rintro e v9 ⟨hb, ⟨a9, n9, cap9, z9, p9, i9, rfl, hr, hf, hx⟩ | ⟨rfl, hno⟩⟩
        · have HP := Lib.hid (GivesE.post (E := eMin z1 p1 i1 z2 p2 i2) (b := w.heap.size + 2) HBL.out (by omega) KRL.out.lt hb hr hx (by rw [← HEE.out]; exact hf))
          obtain ⟨r0, r1, r2, r3, r4, r5⟩ := KRL.out.below hb
          clear hb hr hf hx
          go_wp2_with fail
          exact bodyPost_ret (v := .tuple #[curV a9 n9 cap9 p9 i9, .int .i64 0]) (by simp [results, Try.results81, go_sem, r0, r1, r2]) rfl HP.out
        · have HP := Lib.hid (GivesE.postNo (E := eMin z1 p1 i1 z2 p2 i2) (b := w.heap.size + 2) HBL.out (by omega) hb (by rw [← HEE.out]; exact hno))
          obtain ⟨r0, r1, r2, r3, r4, r5⟩ := KRL.out.below hb
          clear hb hno
          go_wp2_with fail
          exact bodyPost_ret (v := .tuple #[curV none 0 0 0 0, .int .i64 3]) (by simp [results, Try.results81, go_sem, r0, r1, r2]) rfl HP.out
      · have HI1 := Lib.hid hI1
        refine (rfinite_any b1 m1 c1 y1 q1 j1 ⟨by omega, by omega⟩ ⟨by omega, by omega⟩ true (finB_fin ((okC_iff y1 q1 j1).2 GY.out.1) HI1.out) _ E0.out.xa.row).mono ?_
        rintro e wxE1 ⟨rfl, hb⟩
        have E1 := Lib.hid (E0.out.call hb)
        clear hb
        clear g0 g1 g2 g3 g4 g5 d0 d1 d2 d3 d4 d5 o0 o1 o2 o3 o4 o5
        obtain ⟨g0, g1, g2, g3, g4, g5⟩ := E1.out.xa.box
        obtain ⟨d0, d1, d2, d3, d4, d5⟩ := E1.out.xb.box
        go_wp2_with fail
        clear g0 g1 g2 g3 g4 g5 d0 d1 d2 d3 d4 d5
        by_cases hI2 : InfC y2
        · have HI2 := Lib.hid hI2
          refine (rfinite_any b2 m2 c2 y2 q2 j2 ⟨by omega, by omega⟩ ⟨by omega, by omega⟩ false (finB_inf HI2.out) _ E1.out.xb.row).mono ?_
          rintro e wxE2 ⟨rfl, hb⟩
          have E2 := Lib.hid (E1.out.call hb)
          clear hb
          clear hI1 hI2
          go_upto_region 21 with fail
          have HRAW := Lib.hid (show RawE (firsts f k) L x1 (eMin y1 q1 j1 y2 q2 j2) from by have h := min_raw GY.out.1 GY.out.2 HLC.out hL120 (fun _ h => absurd HI2.out h); rw [HF.out, HMC.out] at h; unfold incMin at h; rw [if_neg HI1.out, if_pos HI2.out, HK1.out.1, HK1.out.2] at h; exact h)
          have RLAST := Lib.hid E2.out.row
          have HBL := Lib.hid E2.out.below
          have KRL := Lib.hid E2.out.res
          obtain ⟨o0, o1, o2, o3, o4, o5⟩ := E2.out.out
          go_wp2_with fail
          clear o0 o1 o2 o3 o4 o5
          refine (rmade_ok _ _ _ _ _ _ HRAW.out _ RLAST.out).mono ?_
          rintro e v9 ⟨hb, ⟨a9, n9, cap9, z9, p9, i9, rfl, hr, hf, hx⟩ | ⟨rfl, hno⟩⟩
          · have HP := Lib.hid (GivesE.post (E := eMin z1 p1 i1 z2 p2 i2) (b := w.heap.size + 2) HBL.out (by omega) KRL.out.lt hb hr hx (by rw [← HEE.out]; exact hf))
            obtain ⟨r0, r1, r2, r3, r4, r5⟩ := KRL.out.below hb
            clear hb hr hf hx
            go_wp2_with fail
            exact bodyPost_ret (v := .tuple #[curV a9 n9 cap9 p9 i9, .int .i64 0]) (by simp [results, Try.results81, go_sem, r0, r1, r2]) rfl HP.out
          · have HP := Lib.hid (GivesE.postNo (E := eMin z1 p1 i1 z2 p2 i2) (b := w.heap.size + 2) HBL.out (by omega) hb (by rw [← HEE.out]; exact hno))
            obtain ⟨r0, r1, r2, r3, r4, r5⟩ := KRL.out.below hb
            clear hb hno
            go_wp2_with fail
            exact bodyPost_ret (v := .tuple #[curV none 0 0 0 0, .int .i64 3]) (by simp [results, Try.results81, go_sem, r0, r1, r2]) rfl HP.out
        · have HI2 := Lib.hid hI2
          refine (rfinite_any b2 m2 c2 y2 q2 j2 ⟨by omega, by omega⟩ ⟨by omega, by omega⟩ true (finB_fin ((okC_iff y2 q2 j2).2 GY.out.2) HI2.out) _ E1.out.xb.row).mono ?_
          rintro e wxE2 ⟨rfl, hb⟩
          have E2 := Lib.hid (E1.out.call hb)
          clear hb
          obtain ⟨g0, g1, g2, g3, g4, g5⟩ := E2.out.xa.box
          obtain ⟨d0, d1, d2, d3, d4, d5⟩ := E2.out.xb.box
          go_wp2_with fail
          clear g0 g1 g2 g3 g4 g5 d0 d1 d2 d3 d4 d5
          have hd1 : -128849018880 ≤ x1 - x2 ∧ x1 - x2 ≤ 128849018880 := by omega
          obtain ⟨dd, hdd⟩ : ∃ d, x1 - x2 = d := ⟨_, rfl⟩
          have HDD := Lib.hid hdd
          refine (rslopes b1 m1 c1 q1 j1 b2 m2 c2 q2 j2 L k1 k2 x1 x2 hkq1 hkz1 hkn1 hkd1 hxw1 hxx1 hkw1 hkq2 hkz2 hkn2 hkd2 hxw2 hxx2 hkw2 ⟨hxl1, hxu1⟩ ⟨hxl2, hxu2⟩ _).mono ?_
          rintro e wz ⟨rfl, hb⟩
          have E3 := Lib.hid (E2.out.call hb)
          clear hb
          rw [hdd]
          rw [hdd] at hd1
          obtain ⟨hd1a, hd1b⟩ := hd1
          clear hdd
          go_wp2_with fail
          go_loopw [15] (fun sl wx => ∃ t : Nat, sl = .int .i64 t ∧ 400 ≤ t ∧ t ≤ 400 + L ∧ Hid (∀ s, 400 ≤ s → s < t → ¬ (dd < 0 ∧ 0 < atC y1 q1 j1 s - atC y2 q2 j2 s ∨ 0 < dd ∧ atC y1 q1 j1 s - atC y2 q2 j2 s < 0)) ∧ Hid (EX w A W2.heap.size (w.heap.size + 2) b1 m1 c1 q1 j1 y1 b2 m2 c2 q2 j2 y2 L g cap k f x1 wx)) (fun sl _ => 400 + L - (intOf sl).toNat)
          case atStart => exact ⟨400, by go_num, Nat.le_refl _, by omega, fun s h1 h2 => by omega, E3⟩
          case round =>
            obtain ⟨t, rfl, ht1, ht2, HPS, ET⟩ := hrel
            obtain ⟨wt, rfl⟩ : ∃ u : World, u = wr := ⟨_, rfl⟩
            by_cases hlt2 : t < 400 + L
            · have hlti2 : (t : Int) < 400 + (L : Int) := by omega
              obtain ⟨vx, hvx⟩ : ∃ v, atC y1 q1 j1 t = v := ⟨_, rfl⟩
              obtain ⟨vy, hvy⟩ : ∃ v, atC y2 q2 j2 t = v := ⟨_, rfl⟩
              have bx := at_bd GY.out.1 (t := t) (by omega)
              have by' := at_bd GY.out.2 (t := t) (by omega)
              rw [hvx] at bx
              rw [hvy] at by'
              have bxf := GY.out.1.bd hI1 t
              have byf := GY.out.2.bd hI2 t
              rw [hvx] at bxf
              rw [hvy] at byf
              have HV := Lib.hid (And.intro hvx hvy)
              have hsubw : IntKind.i64.wrap (vx - vy) = vx - vy := IntWalk.i64_in _ ⟨by omega, by omega⟩
              have ET0 := Lib.hid (ET.out.call (Below.refl _ _).drew)
              have KS13 := Lib.hid (show ∀ u, EX w A W2.heap.size (w.heap.size + 2) b1 m1 c1 q1 j1 y1 b2 m2 c2 q2 j2 y2 L g cap k f x1 u → (fun u => u.cell? ⟨A, 0, none⟩ = some (.slice b1 m1 c1) ∧ u.cell? ⟨A, 1, none⟩ = some (.int .i64 q1) ∧ u.cell? ⟨A, 2, none⟩ = some (.int .i64 j1) ∧ u.cell? ⟨A + 1, 0, none⟩ = some (.slice b2 m2 c2) ∧ u.cell? ⟨A + 1, 1, none⟩ = some (.int .i64 q2) ∧ u.cell? ⟨A + 1, 2, none⟩ = some (.int .i64 j2) ∧ Hid (EX w A W2.heap.size (w.heap.size + 2) b1 m1 c1 q1 j1 y1 b2 m2 c2 q2 j2 y2 L g cap k f x1 u)) u from fun u hu => ⟨hu.xa.box.c0, hu.xa.box.c1, hu.xa.box.c2, hu.xb.box.c0, hu.xb.box.c1, hu.xb.box.c2, hu⟩)
              clear hvx hvy bx by'
              go_upto_region 13 with fail
              refine wp_region_keeps (fun u => u.cell? ⟨A, 0, none⟩ = some (.slice b1 m1 c1) ∧ u.cell? ⟨A, 1, none⟩ = some (.int .i64 q1) ∧ u.cell? ⟨A, 2, none⟩ = some (.int .i64 j1) ∧ u.cell? ⟨A + 1, 0, none⟩ = some (.slice b2 m2 c2) ∧ u.cell? ⟨A + 1, 1, none⟩ = some (.int .i64 q2) ∧ u.cell? ⟨A + 1, 2, none⟩ = some (.int .i64 j2) ∧ Hid (EX w A W2.heap.size (w.heap.size + 2) b1 m1 c1 q1 j1 y1 b2 m2 c2 q2 j2 y2 L g cap k f x1 u)) 7 1 (by kernel_rfl) (by kernel_rfl) (KS13.out _ ET0.out) (fun hHeld0 => ?_)
              refine wpAnyK_take (i := 0) (v := ?_) rfl (by kernel_rfl) (fun _ _ _ h => h) (Or.inl ⟨by rfl, ?_⟩) (by assumption) ?_
              rotate_left
              · (intro w hSw; (try dsimp only at hSw); go_simp; try with_reducible rfl)
              try simp only [Act.put, List.getElem_toArray, List.getElem_cons_zero, List.getElem_cons_succ, List.setIfInBounds_toArray, List.set_cons_zero, List.set_cons_succ]
              refine wpAnyK_take (i := 1) (v := ?_) rfl (by kernel_rfl) (fun _ _ _ h => h) (Or.inl ⟨by rfl, ?_⟩) (by assumption) ?_
              rotate_left
              · (intro w hSw; (try dsimp only at hSw); go_simp; try with_reducible rfl)
              try simp only [Act.put, List.getElem_toArray, List.getElem_cons_zero, List.getElem_cons_succ, List.setIfInBounds_toArray, List.set_cons_zero, List.set_cons_succ]
              refine wpAnyK_take (i := 3) (v := ?_) rfl (by kernel_rfl) (fun _ _ _ h => h) (Or.inl ⟨by rfl, ?_⟩) (by assumption) ?_
              rotate_left
              · (intro w hSw; (try dsimp only at hSw); go_simp; try with_reducible rfl)
              try simp only [Act.put, List.getElem_toArray, List.getElem_cons_zero, List.getElem_cons_succ, List.setIfInBounds_toArray, List.set_cons_zero, List.set_cons_succ]
              refine wpAnyK_take (i := 4) (v := ?_) rfl (by kernel_rfl) (fun _ _ _ h => h) (Or.inl ⟨by rfl, ?_⟩) (by assumption) ?_
              rotate_left
              · (intro w hSw; (try dsimp only at hSw); go_simp; try with_reducible rfl)
              try simp only [Act.put, List.getElem_toArray, List.getElem_cons_zero, List.getElem_cons_succ, List.setIfInBounds_toArray, List.set_cons_zero, List.set_cons_succ]
              refine wpAnyK_step (i := 2) rfl (by kernel_rfl) (fun K hK => ?_)
              go_simp
              with_reducible refine (rat_at b1 m1 c1 y1 q1 j1 GY.out.1 t t rfl (by omega) vx HV.out.1 _ ET0.out.xa.row).mono ?_
              rintro e u8 ⟨rfl, hb⟩
              have ET1 := Lib.hid (ET0.out.call hb)
              clear hb
              refine hK.out _ _ (KS13.out _ ET1.out) (fun hHeld1 => ?_)
              clear hK K hHeld0
              try simp only [Act.put, List.getElem_toArray, List.getElem_cons_zero, List.getElem_cons_succ, List.setIfInBounds_toArray, List.set_cons_zero, List.set_cons_succ]
              refine wpAnyK_step (i := 5) rfl (by kernel_rfl) (fun K hK => ?_)
              go_simp
              with_reducible refine (rat_at b2 m2 c2 y2 q2 j2 GY.out.2 t t rfl (by omega) vy HV.out.2 _ ET1.out.xb.row).mono ?_
              rintro e u9 ⟨rfl, hb⟩
              have ET2 := Lib.hid (ET1.out.call hb)
              clear hb
              refine hK.out _ _ (KS13.out _ ET2.out) (fun hHeld2 => ?_)
              clear hK K hHeld1
              try simp only [Act.put, List.getElem_toArray, List.getElem_cons_zero, List.getElem_cons_succ, List.setIfInBounds_toArray, List.set_cons_zero, List.set_cons_succ]
              refine wpAnyK_take (i := 6) (v := ?_) rfl (by kernel_rfl) (fun _ _ _ h => h) (Or.inl ⟨by rfl, ?_⟩) (by assumption) ?_
              rotate_left
              · (intro w hSw; (try dsimp only at hSw); go_simp; try with_reducible rfl)
              try simp only [Act.put, List.getElem_toArray, List.getElem_cons_zero, List.getElem_cons_succ, List.setIfInBounds_toArray, List.set_cons_zero, List.set_cons_succ]
              refine wpAnyK_done (by kernel_rfl) ?_
              simp only [List.drop_succ_cons, List.drop_zero]
              clear hHeld2
              rcases (show (dd < 0 ∧ 0 < vx - vy) ∨ (0 < dd ∧ vx - vy < 0) ∨ (dd < 0 ∧ ¬ 0 < vx - vy) ∨ (0 < dd ∧ ¬ vx - vy < 0) ∨ dd = 0 by omega) with ⟨cc1, cc2⟩ | ⟨cc1, cc2⟩ | ⟨cc1, cc2⟩ | ⟨cc1, cc2⟩ | cc1
              · have t1 : decide (dd < 0) = true := decide_eq_true cc1
                have t2 : decide (0 < vx - vy) = true := decide_eq_true cc2
                have hdx := HDD.out
                have HNO := Lib.hid (show ¬ ECan (eMin y1 q1 j1 y2 q2 j2) from (ext_no GY.out.1 GY.out.2 HLC.out hI1 hI2 (u := t) ht1 (by rw [HK1.out.1, HK1.out.2, HK2.out.1, HK2.out.2, HV.out.1, HV.out.2]; omega)).1)
                have HP := Lib.hid (GivesE.postNo (E := eMin z1 p1 i1 z2 p2 i2) (b := w.heap.size + 2) ET2.out.below (by omega) (Below.refl _ _) (by rw [← HEE.out]; exact HNO.out))
                obtain ⟨r0, r1, r2, r3, r4, r5⟩ := ET2.out.res
                go_wp2_with fail
                exact bodyPost_ret (v := .tuple #[curV none 0 0 0 0, .int .i64 3]) (by simp [results, Try.results81, go_sem, r0, r1, r2]) rfl HP.out
              · have cc3 : ¬ dd < 0 := by omega
                have t1 : decide (dd < 0) = false := decide_eq_false cc3
                have t2 : decide (0 < dd) = true := decide_eq_true cc1
                have t3 : decide (vx - vy < 0) = true := decide_eq_true cc2
                have hdx := HDD.out
                have HNO := Lib.hid (show ¬ ECan (eMin y1 q1 j1 y2 q2 j2) from (ext_no GY.out.1 GY.out.2 HLC.out hI1 hI2 (u := t) ht1 (by rw [HK1.out.1, HK1.out.2, HK2.out.1, HK2.out.2, HV.out.1, HV.out.2]; omega)).1)
                have HP := Lib.hid (GivesE.postNo (E := eMin z1 p1 i1 z2 p2 i2) (b := w.heap.size + 2) ET2.out.below (by omega) (Below.refl _ _) (by rw [← HEE.out]; exact HNO.out))
                obtain ⟨r0, r1, r2, r3, r4, r5⟩ := ET2.out.res
                go_wp2_with fail
                exact bodyPost_ret (v := .tuple #[curV none 0 0 0 0, .int .i64 3]) (by simp [results, Try.results81, go_sem, r0, r1, r2]) rfl HP.out
              · have t1 : decide (dd < 0) = true := decide_eq_true cc1
                have t2 : decide (0 < vx - vy) = false := decide_eq_false cc2
                have cc3 : ¬ 0 < dd := by omega
                have t3 : decide (0 < dd) = false := decide_eq_false cc3
                go_wp2_with fail
                go_roundw
                case rel => exact ⟨t + 1, by go_num, by omega, by omega, fun s h1 h2 => by
                  rcases Nat.lt_or_ge s t with h | h
                  · exact HPS.out s h1 h
                  · have e : s = t := by omega
                    subst e
                    rw [HV.out.1, HV.out.2]; omega, ET2⟩
                case measure => simp [intOf]; omega
              · have cc3 : ¬ dd < 0 := by omega
                have t1 : decide (dd < 0) = false := decide_eq_false cc3
                have t2 : decide (0 < dd) = true := decide_eq_true cc1
                have t3 : decide (vx - vy < 0) = false := decide_eq_false cc2
                go_wp2_with fail
                go_roundw
                case rel => exact ⟨t + 1, by go_num, by omega, by omega, fun s h1 h2 => by
                  rcases Nat.lt_or_ge s t with h | h
                  · exact HPS.out s h1 h
                  · have e : s = t := by omega
                    subst e
                    rw [HV.out.1, HV.out.2]; omega, ET2⟩
                case measure => simp [intOf]; omega
              · have cc3 : ¬ dd < 0 := by omega
                have t1 : decide (dd < 0) = false := decide_eq_false cc3
                have cc4 : ¬ 0 < dd := by omega
                have t2 : decide (0 < dd) = false := decide_eq_false cc4
                have HC1 := Lib.hid cc1
                clear cc1
                go_wp2_with fail
                go_roundw
                case rel => exact ⟨t + 1, by go_num, by omega, by omega, fun s h1 h2 => by
                  rcases Nat.lt_or_ge s t with h | h
                  · exact HPS.out s h1 h
                  · have e : s = t := by omega
                    subst e
                    rw [HV.out.1, HV.out.2]; have := HC1.out; omega, ET2⟩
                case measure => simp [intOf]; omega
            · obtain rfl : t = 400 + L := by omega
              have hlti2 : ¬ (((400 + L : Nat) : Int) < 400 + (L : Int)) := by omega
              have HPA := Lib.hid (show Passed (atC y1 q1 j1) (atC y2 q2 j2) L (j1 * ((L / q1 : Nat) : Int) - j2 * ((L / q2 : Nat) : Int)) by
                rw [HK1.out.1, HK1.out.2, HK2.out.1, HK2.out.2, HDD.out]; exact HPS.out)
              have HRX := Lib.hid (show RawE (firsts f k) L (incMin y1 q1 j1 y2 q2 j2 L) (eMin y1 q1 j1 y2 q2 j2) by
                have h := min_raw GY.out.1 GY.out.2 HLC.out hL120 (fun _ _ => HPA.out)
                rw [HF.out, HMC.out] at h; exact h)
              have HIV := Lib.hid (show incMin y1 q1 j1 y2 q2 j2 L = if 0 < dd then x2 else x1 by
                unfold incMin; rw [if_neg hI1, if_neg hI2, HK1.out.1, HK1.out.2, HK2.out.1, HK2.out.2, HDD.out])
              by_cases cc1 : 0 < dd
              · have t1 : decide (0 < dd) = true := decide_eq_true cc1
                have ETd := Lib.hid (ET.out.call (Below.refl _ _).drew)
                have KSE5 := Lib.hid (show ∀ u, EX w A W2.heap.size (w.heap.size + 2) b1 m1 c1 q1 j1 y1 b2 m2 c2 q2 j2 y2 L g cap k f x1 u → (fun u => u.cell? ⟨A, 0, none⟩ = some (.slice b1 m1 c1) ∧ u.cell? ⟨A, 1, none⟩ = some (.int .i64 q1) ∧ u.cell? ⟨A, 2, none⟩ = some (.int .i64 j1) ∧ u.cell? ⟨A + 1, 0, none⟩ = some (.slice b2 m2 c2) ∧ u.cell? ⟨A + 1, 1, none⟩ = some (.int .i64 q2) ∧ u.cell? ⟨A + 1, 2, none⟩ = some (.int .i64 j2) ∧ Hid (EX w A W2.heap.size (w.heap.size + 2) b1 m1 c1 q1 j1 y1 b2 m2 c2 q2 j2 y2 L g cap k f x1 u)) u from fun u hu => ⟨hu.xa.box.c0, hu.xa.box.c1, hu.xa.box.c2, hu.xb.box.c0, hu.xb.box.c1, hu.xb.box.c2, hu⟩)
                go_upto_region 17 with fail
                refine wp_region_keeps (fun u => u.cell? ⟨A, 0, none⟩ = some (.slice b1 m1 c1) ∧ u.cell? ⟨A, 1, none⟩ = some (.int .i64 q1) ∧ u.cell? ⟨A, 2, none⟩ = some (.int .i64 j1) ∧ u.cell? ⟨A + 1, 0, none⟩ = some (.slice b2 m2 c2) ∧ u.cell? ⟨A + 1, 1, none⟩ = some (.int .i64 q2) ∧ u.cell? ⟨A + 1, 2, none⟩ = some (.int .i64 j2) ∧ Hid (EX w A W2.heap.size (w.heap.size + 2) b1 m1 c1 q1 j1 y1 b2 m2 c2 q2 j2 y2 L g cap k f x1 u)) 8 1 (by kernel_rfl) (by kernel_rfl) (KSE5.out _ ETd.out) (fun hHeld0 => ?_)
                refine wpAnyK_take (i := 0) (v := ?_) rfl (by kernel_rfl) (fun _ _ _ h => h) (Or.inl ⟨by rfl, ?_⟩) (by assumption) ?_
                rotate_left
                · (intro w hSw; (try dsimp only at hSw); go_simp; try with_reducible rfl)
                try simp only [Act.put, List.getElem_toArray, List.getElem_cons_zero, List.getElem_cons_succ, List.setIfInBounds_toArray, List.set_cons_zero, List.set_cons_succ]
                refine wpAnyK_take (i := 1) (v := ?_) rfl (by kernel_rfl) (fun _ _ _ h => h) (Or.inl ⟨by rfl, ?_⟩) (by assumption) ?_
                rotate_left
                · (intro w hSw; (try dsimp only at hSw); go_simp; try with_reducible rfl)
                try simp only [Act.put, List.getElem_toArray, List.getElem_cons_zero, List.getElem_cons_succ, List.setIfInBounds_toArray, List.set_cons_zero, List.set_cons_succ]
                refine wpAnyK_take (i := 2) (v := ?_) rfl (by kernel_rfl) (fun _ _ _ h => h) (Or.inl ⟨by rfl, ?_⟩) (by assumption) ?_
                rotate_left
                · (intro w hSw; (try dsimp only at hSw); go_simp; try with_reducible rfl)
                try simp only [Act.put, List.getElem_toArray, List.getElem_cons_zero, List.getElem_cons_succ, List.setIfInBounds_toArray, List.set_cons_zero, List.set_cons_succ]
                refine wpAnyK_take (i := 3) (v := ?_) rfl (by kernel_rfl) (fun _ _ _ h => h) (Or.inl ⟨by rfl, ?_⟩) (by assumption) ?_
                rotate_left
                · (intro w hSw; (try dsimp only at hSw); go_simp; try with_reducible rfl)
                try simp only [Act.put, List.getElem_toArray, List.getElem_cons_zero, List.getElem_cons_succ, List.setIfInBounds_toArray, List.set_cons_zero, List.set_cons_succ]
                refine wpAnyK_take (i := 4) (v := ?_) rfl (by kernel_rfl) (fun _ _ _ h => h) (Or.inl ⟨by rfl, ?_⟩) (by assumption) ?_
                rotate_left
                · (intro w hSw; (try dsimp only at hSw); go_simp; try with_reducible rfl)
                try simp only [Act.put, List.getElem_toArray, List.getElem_cons_zero, List.getElem_cons_succ, List.setIfInBounds_toArray, List.set_cons_zero, List.set_cons_succ]
                refine wpAnyK_take (i := 5) (v := ?_) rfl (by kernel_rfl) (fun _ _ _ h => h) (Or.inl ⟨by rfl, ?_⟩) (by assumption) ?_
                rotate_left
                · (intro w hSw; (try dsimp only at hSw); go_simp; try with_reducible rfl)
                try simp only [Act.put, List.getElem_toArray, List.getElem_cons_zero, List.getElem_cons_succ, List.setIfInBounds_toArray, List.set_cons_zero, List.set_cons_succ]
                refine wpAnyK_take (i := 6) (v := ?_) rfl (by kernel_rfl) (fun _ _ _ h => h) (Or.inl ⟨by rfl, ?_⟩) (by assumption) ?_
                rotate_left
                · (intro w hSw; (try dsimp only at hSw); go_simp; try with_reducible rfl)
                try simp only [Act.put, List.getElem_toArray, List.getElem_cons_zero, List.getElem_cons_succ, List.setIfInBounds_toArray, List.set_cons_zero, List.set_cons_succ]
                refine wpAnyK_take (i := 7) (v := ?_) rfl (by kernel_rfl) (fun _ _ _ h => h) (Or.inl ⟨by rfl, ?_⟩) (by assumption) ?_
                rotate_left
                · (intro w hSw; (try dsimp only at hSw); go_simp; try with_reducible rfl)
                try simp only [Act.put, List.getElem_toArray, List.getElem_cons_zero, List.getElem_cons_succ, List.setIfInBounds_toArray, List.set_cons_zero, List.set_cons_succ]
                refine wpAnyK_done (by kernel_rfl) ?_
                simp only [List.drop_succ_cons, List.drop_zero]
                clear hHeld0
                obtain ⟨ws, hws⟩ : ∃ W, (wt.setCell ⟨W2.heap.size, 2, none⟩ (.int .i64 x2)).drew = W := ⟨_, rfl⟩
                have E5 := Lib.hid (show EX w A W2.heap.size (w.heap.size + 2) b1 m1 c1 q1 j1 y1 b2 m2 c2 q2 j2 y2 L g cap k f x2 ws by rw [← hws]; exact (ET.out.put x2).call (Below.refl _ _).drew)
                have HWSS := Lib.hid hws
                obtain ⟨o0, o1, o2, o3, o4, o5⟩ := ETd.out.out
                clear hws
                go_upto_region 21 with fail
                try rw [HWSS.out]
                clear o0 o1 o2 o3 o4 o5
                have HRAW := Lib.hid (show RawE (firsts f k) L x2 (eMin y1 q1 j1 y2 q2 j2) from by have h := HRX.out; rw [HIV.out, if_pos cc1] at h; exact h)
                have RLAST := Lib.hid E5.out.row
                have HBL := Lib.hid E5.out.below
                have KRL := Lib.hid E5.out.res
                obtain ⟨o0, o1, o2, o3, o4, o5⟩ := E5.out.out
                go_wp2_with fail
                clear o0 o1 o2 o3 o4 o5
                refine (rmade_ok _ _ _ _ _ _ HRAW.out _ RLAST.out).mono ?_
                rintro e v9 ⟨hb, ⟨a9, n9, cap9, z9, p9, i9, rfl, hr, hf, hx⟩ | ⟨rfl, hno⟩⟩
                · have HP := Lib.hid (GivesE.post (E := eMin z1 p1 i1 z2 p2 i2) (b := w.heap.size + 2) HBL.out (by omega) KRL.out.lt hb hr hx (by rw [← HEE.out]; exact hf))
                  obtain ⟨r0, r1, r2, r3, r4, r5⟩ := KRL.out.below hb
                  clear hb hr hf hx
                  go_wp2_with fail
                  exact bodyPost_ret (v := .tuple #[curV a9 n9 cap9 p9 i9, .int .i64 0]) (by simp [results, Try.results81, go_sem, r0, r1, r2]) rfl HP.out
                · have HP := Lib.hid (GivesE.postNo (E := eMin z1 p1 i1 z2 p2 i2) (b := w.heap.size + 2) HBL.out (by omega) hb (by rw [← HEE.out]; exact hno))
                  obtain ⟨r0, r1, r2, r3, r4, r5⟩ := KRL.out.below hb
                  clear hb hno
                  go_wp2_with fail
                  exact bodyPost_ret (v := .tuple #[curV none 0 0 0 0, .int .i64 3]) (by simp [results, Try.results81, go_sem, r0, r1, r2]) rfl HP.out
              · have t1 : decide (0 < dd) = false := decide_eq_false cc1
                have HRAW := Lib.hid (show RawE (firsts f k) L x1 (eMin y1 q1 j1 y2 q2 j2) from by have h := HRX.out; rw [HIV.out, if_neg cc1] at h; exact h)
                have RLAST := Lib.hid ET.out.row
                have HBL := Lib.hid ET.out.below
                have KRL := Lib.hid ET.out.res
                obtain ⟨o0, o1, o2, o3, o4, o5⟩ := ET.out.out
                go_wp2_with fail
                clear o0 o1 o2 o3 o4 o5
                refine (rmade_ok _ _ _ _ _ _ HRAW.out _ RLAST.out).mono ?_
                rintro e v9 ⟨hb, ⟨a9, n9, cap9, z9, p9, i9, rfl, hr, hf, hx⟩ | ⟨rfl, hno⟩⟩
                · have HP := Lib.hid (GivesE.post (E := eMin z1 p1 i1 z2 p2 i2) (b := w.heap.size + 2) HBL.out (by omega) KRL.out.lt hb hr hx (by rw [← HEE.out]; exact hf))
                  obtain ⟨r0, r1, r2, r3, r4, r5⟩ := KRL.out.below hb
                  clear hb hr hf hx
                  go_wp2_with fail
                  exact bodyPost_ret (v := .tuple #[curV a9 n9 cap9 p9 i9, .int .i64 0]) (by simp [results, Try.results81, go_sem, r0, r1, r2]) rfl HP.out
                · have HP := Lib.hid (GivesE.postNo (E := eMin z1 p1 i1 z2 p2 i2) (b := w.heap.size + 2) HBL.out (by omega) hb (by rw [← HEE.out]; exact hno))
                  obtain ⟨r0, r1, r2, r3, r4, r5⟩ := KRL.out.below hb
                  clear hb hno
                  go_wp2_with fail
                  exact bodyPost_ret (v := .tuple #[curV none 0 0 0 0, .int .i64 3]) (by simp [results, Try.results81, go_sem, r0, r1, r2]) rfl HP.out

set_option maxRecDepth 100000 in
set_option maxHeartbeats 1600000 in
theorem rmin_ok (a1 : Option Addr) (n1 cap1 : Nat) (z1 : List Int) (p1 : Nat) (i1 : Int) (g1 : Good z1 p1 i1) (a2 : Option Addr) (n2 cap2 : Nat) (z2 : List Int) (p2 : Nat) (i2 : Int) (g2 : Good z2 p2 i2) (L : Nat) (hL : LcmN z1 p1 i1 z2 p2 i2 L) (hL2 : L ≤ 120) (w : World) (h1 : RowZ w a1 n1 cap1 z1) (h2 : RowZ w a2 n2 cap2 z2) :
    Calls Try.prog 36 #[curV a1 n1 cap1 p1 i1, curV a2 n2 cap2 p2 i2] w (GivesE (eMin z1 p1 i1 z2 p2 i2) w) := by
  have HX := Lib.hid (show ∀ u, RowZ u a1 n1 cap1 z1 → RowZ u a2 n2 cap2 z2 → Calls Try.prog 81 #[curV a1 n1 cap1 p1 i1, curV a2 n2 cap2 p2 i2, .bool true] u (GivesE (eMin z1 p1 i1 z2 p2 i2) u) from fun u r1 r2 => rext_min a1 n1 cap1 z1 p1 i1 g1 a2 n2 cap2 z2 p2 i2 g2 L hL hL2 u r1 r2)
  obtain ⟨W, hW⟩ : ∃ W, ((w.alloc (.cells #[.slice a1 n1 cap1, .int .i64 p1, .int .i64 i1] 24)).alloc (.cells #[.slice a2 n2 cap2, .int .i64 p2, .int .i64 i2] 24)).alloc (.cells #[.slice none 0 0, .int .i64 0, .int .i64 0] 24) = W := ⟨_, rfl⟩
  obtain ⟨⟨hB, hWs⟩, k1, k2, kr⟩ := boxesB w a1 n1 cap1 p1 i1 a2 n2 cap2 p2 i2 hW
  have HB := Lib.hid hB
  have KR := Lib.hid kr
  have HR := Lib.hid (And.intro (h1.under hB) (h2.under hB))
  have HW := Lib.hid hW
  obtain ⟨m0, m1, m2, m3, m4, m5⟩ := k1
  obtain ⟨u0, u1, u2, u3, u4, u5⟩ := k2
  clear h1 h2 hB kr hW hWs g1 g2 hL
  go_enter Try.func36, Try.ntmps36
  go_upto_region 1 with fail
  try rw [HW.out]
  go_wp2_with fail
  clear m0 m1 m2 m3 m4 m5 u0 u1 u2 u3 u4 u5
  refine (HX.out _ HR.out.1 HR.out.2).mono ?_
  rintro e v2 ⟨hb2, ⟨a5, n5, cap5, zs5, p5, inc5, rfl, hr5, hf5, hx5⟩ | ⟨rfl, hno5⟩⟩
  · have HP := Lib.hid (GivesE.post (b := w.heap.size + 2) HB.out (by omega) KR.out.lt hb2 hr5 hx5 hf5)
    obtain ⟨d0, d1, d2, e0, e1, e2⟩ := KR.out.below hb2
    clear hb2 hr5 hf5 hx5
    go_wp2_with fail
    exact bodyPost_ret (v := .tuple #[curV a5 n5 cap5 p5 inc5, .int .i64 0]) (by simp [results, Try.results36, go_sem, d0, d1, d2]) rfl HP.out
  · have HP := Lib.hid (GivesE.postNo (b := w.heap.size + 2) HB.out (by omega) hb2 hno5)
    obtain ⟨d0, d1, d2, e0, e1, e2⟩ := KR.out.below hb2
    clear hb2 hno5
    go_wp2_with fail
    exact bodyPost_ret (v := .tuple #[curV none 0 0 0 0, .int .i64 3]) (by simp [results, Try.results36, go_sem, d0, d1, d2]) rfl HP.out

end Go.Proofs.Ytladmpoopfabdaa

namespace Go.Proofs.Ytladmpoopfabdaa
open Go.RowKit
set_option linter.unusedSimpArgs false
set_option linter.unusedVariables false

theorem made_list (d : Nat) : (madeCells #[Value.int .i64 0] d).toList = List.replicate d (Value.int .i64 0) := by
  apply List.ext_getElem
  · simp [madeCells]
  · intro i h1 h2
    simp [madeCells, Nat.mod_one]
theorem made_own (w : World) (base d : Nat) (hb : base ≤ w.heap.size) (hd : d ≤ 1000) : (w.alloc (.cells (madeCells #[.int .i64 0] d) 3)).ownsRow base 3 1 (.slice (some ⟨w.heap.size, 0, none⟩) d d) d (List.replicate d (Value.int .i64 0)) := by
  refine ⟨by simp, .inr ⟨w.heap.size, d, madeCells #[.int .i64 0] d, rfl, hb, heap_alloc_new w _, Nat.le_refl _, by unfold maxLen; omega, by rw [size_madeCells]; omega, ?_⟩⟩
  rw [made_list, Nat.mul_one, List.take_of_length_le (by simp)]

/-- What stands in Later. -/
structure DL (w : World) (A : Nat) (a : Option Addr) (n cap p : Nat) (inc : Int) (zs : List Int) (u : World) : Prop where
  x : Bx u A a n cap p inc zs
  res : Cur3 u (w.heap.size + 1) (.slice none 0 0) (.int .i64 0) (.int .i64 0)
  below : Below w.heap.size w u
  n1 : w.heap.size + 1 < A
theorem DL.call {w u v : World} {A : Nat} {a : Option Addr} {n cap p : Nat} {inc : Int} {zs : List Int} (h : DL w A a n cap p inc zs u) (hb : Below u.heap.size u v) : DL w A a n cap p inc zs v := ⟨h.x.under hb, h.res.below hb, h.below.trans (hb.mono h.below.size), h.n1⟩
/-- Behind the append: the curve's list may not be read any more. -/
structure DM (w : World) (A : Nat) (a : Option Addr) (n cap p : Nat) (inc : Int) (u : World) : Prop where
  xb : Cur3 u A (.slice a n cap) (.int .i64 p) (.int .i64 inc)
  res : Cur3 u (w.heap.size + 1) (.slice none 0 0) (.int .i64 0) (.int .i64 0)
  below : Below w.heap.size w u
theorem DM.call {w u v : World} {A : Nat} {a : Option Addr} {n cap p : Nat} {inc : Int} (h : DM w A a n cap p inc u) (hb : Below u.heap.size u v) : DM w A a n cap p inc v := ⟨h.xb.below hb, h.res.below hb, h.below.trans (hb.mono h.below.size)⟩
theorem DL.dm {w u : World} {A : Nat} {a : Option Addr} {n cap p : Nat} {inc : Int} {zs : List Int} (h : DL w A a n cap p inc zs u) : DM w A a n cap p inc u := ⟨h.x.box, h.res, h.below⟩
theorem DL.news {w u : World} {A : Nat} {a : Option Addr} {n cap p : Nat} {inc : Int} {zs : List Int} (h : DL w A a n cap p inc zs u) (hn : 1 ≤ n) : ∃ ad, a = some ad ∧ ∀ j v, (zs.map (Value.int .i64))[j]? = some v → u.cell? (ad.add j) = some v := by
  obtain ⟨ad, had, _⟩ := h.x.row.cell 0 (by omega)
  refine ⟨ad, had, fun j v hj => ?_⟩
  have hl := h.x.row.len
  have hjl : j < zs.length := by
    have := (List.getElem?_eq_some_iff.1 hj).1
    rwa [List.length_map] at this
  obtain ⟨x, hx1, hx2⟩ := h.x.row.cell j (by omega)
  obtain rfl : ad = x := by rw [had] at hx1; cases hx1; rfl
  rw [hx2]
  rw [List.getElem?_map, List.getElem?_eq_getElem hjl] at hj
  rw [List.getD_eq_getElem?_getD, List.getElem?_eq_getElem hjl]
  exact hj

set_option maxRecDepth 100000 in
set_option maxHeartbeats 6400000 in
theorem rlater_ok (a : Option Addr) (n cap : Nat) (zs : List Int) (p : Nat) (inc : Int) (g : Good zs p inc) (di : Int) (d : Nat) (hdi : di = d) (hd : d ≤ 400) (w : World) (h : RowZ w a n cap zs) :
    Calls Try.prog 37 #[curV a n cap p inc, .int .i64 di] w (GivesE (eLater d zs p inc) w) := by
  subst hdi
  obtain ⟨ii0, ihi, ihz0, ihz1, ihz2⟩ := info_parts info_int
  obtain ⟨W, hW⟩ : ∃ W, (w.alloc (.cells #[.slice a n cap, .int .i64 p, .int .i64 inc] 24)).alloc (.cells #[.slice none 0 0, .int .i64 0, .int .i64 0] 24) = W := ⟨_, rfl⟩
  have hB : Below w.heap.size w W := by rw [← hW]; exact ((Below.refl _ _).alloc (Nat.le_refl _) _).alloc (by simp) _
  have hWs : W.heap.size = w.heap.size + 2 := by rw [← hW]; simp
  have HB := Lib.hid hB
  have HWS := Lib.hid hWs
  have KR := Lib.hid (show Cur3 W (w.heap.size + 1) (.slice none 0 0) (.int .i64 0) (.int .i64 0) by rw [← hW]; exact Cur3.new2 w _ _ _ _ _)
  have HR := Lib.hid (h.under hB)
  have HG := Lib.hid g
  have HW := Lib.hid hW
  obtain ⟨c0, c1, c2, f0, f1, f2⟩ : Cur3 W w.heap.size (.slice a n cap) (.int .i64 p) (.int .i64 inc) := by rw [← hW]; exact (Cur3.new w _ _ _ _).alloc _
  clear hB hWs h g hW
  go_enter Try.func37, Try.ntmps37
  go_upto_region 1 with fail
  try rw [HW.out]
  go_wp2_with fail
  clear c0 c1 c2 f0 f1 f2
  refine (rnormal_ok a n cap zs p inc HG.out _ HR.out).mono ?_
  rintro e v1 ⟨a', n', cap', zs', p', inc', rfl, hb, hr, hn, hx⟩
  obtain ⟨W2, hw2⟩ : ∃ W', v1.alloc (.cells #[.slice a' n' cap', .int .i64 p', .int .i64 inc'] 24) = W' := ⟨_, rfl⟩
  have hz2 : Below v1.heap.size v1 W2 := by rw [← hw2]; exact below_box _
  obtain ⟨A, hA⟩ : ∃ A, v1.heap.size = A := ⟨_, rfl⟩
  have hAW : w.heap.size + 1 < A := by have := hb.size; have := HWS.out; omega
  have T2 := Lib.hid (show DL w A a' n' cap' p' inc' zs' W2 from ⟨by rw [← hw2, ← hA]; exact Bx.new hr, KR.out.below (hb.trans (hz2.mono hb.size)), HB.out.trans ((hb.trans (hz2.mono hb.size)).mono HB.out.size), hAW⟩)
  have T0 := Lib.hid (And.intro (T2.out.call (Below.refl _ _).drew) (show A + 1 ≤ W2.drew.heap.size from T2.out.x.box.lt))
  have GN := Lib.hid (hn.good HG.out)
  have HEE := Lib.hid (show eLater d zs' p' inc' = eLater d zs p inc by funext t; unfold eLater; simp only [(hn.eform HG.out).2.1])
  have HNL := Lib.hid (show zs'.length = n' from hr.len)
  have hn1 : 1 ≤ n' := by have := GN.out.p1; have := GN.out.p3; have := HNL.out; omega
  have hn4 : n' ≤ 400 := by have := GN.out.few; have := HNL.out; omega
  have gp := GN.out.p1
  have gp2 := GN.out.p2
  have gi := GN.out.i0
  have gi2 := GN.out.i1
  have HRAW := Lib.hid (later_raw GN.out (d := d) (by omega))
  have HBD := Lib.hid (show ∀ i, i < (List.replicate d (0 : Int) ++ zs').length → In64 ((List.replicate d (0 : Int) ++ zs').getD i 0) from fun i hi => by
    rw [List.length_append, List.length_replicate] at hi
    by_cases h : i < d
    · have e : (List.replicate d (0 : Int) ++ zs').getD i 0 = 0 := by simp [List.getD, List.getElem?_append, h]
      rw [e]; exact ⟨by omega, by omega⟩
    · have e : (List.replicate d (0 : Int) ++ zs').getD i 0 = zs'.getD (i - d) 0 := by simp [List.getD, List.getElem?_append, h]
      rw [e]
      rcases GN.out.val (i - d) (by omega) with h | h
      · exact ⟨by omega, by omega⟩
      · rw [h]; exact ⟨by unfold infV; omega, by unfold infV; omega⟩)
  have HAW := Lib.hid hAW
  have hd1000 : d ≤ 1000 := by omega
  have HW2 := Lib.hid hw2
  have HAE := Lib.hid hA
  have hmk := make_rowM d (by omega)
  have td : ¬ (800 : Int) < (d : Int) := by omega
  have td2 : decide ((800 : Int) < (d : Int)) = false := decide_eq_false td
  have td3 : ¬ 800 < d := by omega
  have hmn : (if (800 : Int) < (d : Int) then (800 : Int) else (d : Int)) = (d : Int) := if_neg td
  have te : ¬ (d : Int) < 0 := by omega
  have te2 : ¬ (1048576 : Int) < (d : Int) := by omega
  have KM := Lib.hid (show ∀ u, DM w A a' n' cap' p' inc' u → (fun u => u.cell? ⟨A, 0, none⟩ = some (.slice a' n' cap') ∧ u.cell? ⟨A, 1, none⟩ = some (.int .i64 p') ∧ u.cell? ⟨A, 2, none⟩ = some (.int .i64 inc') ∧ Hid (DM w A a' n' cap' p' inc' u)) u from fun u h => ⟨h.xb.c0, h.xb.c1, h.xb.c2, h⟩)
  clear hb hr hn hx hw2 hz2 hA
  go_upto_region 6 with fail
  try rw [HW2.out]
  try rw [HAE.out]
  refine wp_region_keeps (fun u => u.cell? ⟨A, 0, none⟩ = some (.slice a' n' cap') ∧ u.cell? ⟨A, 1, none⟩ = some (.int .i64 p') ∧ u.cell? ⟨A, 2, none⟩ = some (.int .i64 inc') ∧ Hid (DM w A a' n' cap' p' inc' u)) 12 1 (by kernel_rfl) (by kernel_rfl) (KM.out _ T0.out.1.dm) (fun hHeld0 => ?_)
  refine wpAnyK_take (i := 0) (v := ?_) rfl (by kernel_rfl) (fun _ _ _ h => h) (Or.inl ⟨by rfl, ?_⟩) (by assumption) ?_
  rotate_left
  · (intro w hSw; (try dsimp only at hSw); go_simp; try with_reducible rfl)
  try simp only [Act.put, List.getElem_toArray, List.getElem_cons_zero, List.getElem_cons_succ, List.setIfInBounds_toArray, List.set_cons_zero, List.set_cons_succ]
  refine wpAnyK_take (i := 1) (v := ?_) rfl (by kernel_rfl) (fun _ _ _ h => h) (Or.inl ⟨by rfl, ?_⟩) (by assumption) ?_
  rotate_left
  · (intro w hSw; (try dsimp only at hSw); go_simp; try with_reducible rfl)
  try simp only [Act.put, List.getElem_toArray, List.getElem_cons_zero, List.getElem_cons_succ, List.setIfInBounds_toArray, List.set_cons_zero, List.set_cons_succ]
  refine wpAnyK_take (i := 2) (v := ?_) rfl (by kernel_rfl) (fun _ _ _ h => h) (Or.inl ⟨by rfl, ?_⟩) (by assumption) ?_
  rotate_left
  · (intro w hSw; (try dsimp only at hSw); go_simp; try with_reducible rfl)
  try simp only [Act.put, List.getElem_toArray, List.getElem_cons_zero, List.getElem_cons_succ, List.setIfInBounds_toArray, List.set_cons_zero, List.set_cons_succ]
  refine wpAnyK_take (i := 3) (v := ?_) rfl (by kernel_rfl) (fun _ _ _ h => h) (Or.inl ⟨by rfl, ?_⟩) (by assumption) ?_
  rotate_left
  · (intro w hSw; (try dsimp only at hSw); go_simp; try with_reducible rfl)
  try simp only [Act.put, List.getElem_toArray, List.getElem_cons_zero, List.getElem_cons_succ, List.setIfInBounds_toArray, List.set_cons_zero, List.set_cons_succ]
  refine wpAnyK_take (i := 4) (v := ?_) rfl (by kernel_rfl) (fun _ _ _ h => h) (Or.inl ⟨by rfl, ?_⟩) (by assumption) ?_
  rotate_left
  · (intro w hSw; (try dsimp only at hSw); go_simp; try with_reducible rfl)
  try simp only [Act.put, List.getElem_toArray, List.getElem_cons_zero, List.getElem_cons_succ, List.setIfInBounds_toArray, List.set_cons_zero, List.set_cons_succ]
  refine wpAnyK_take (i := 5) (v := ?_) rfl (by kernel_rfl) (fun _ _ _ h => h) (Or.inl ⟨by rfl, ?_⟩) (by assumption) ?_
  rotate_left
  · (intro w hSw; (try dsimp only at hSw); go_simp; try with_reducible rfl)
  try simp only [Act.put, List.getElem_toArray, List.getElem_cons_zero, List.getElem_cons_succ, List.setIfInBounds_toArray, List.set_cons_zero, List.set_cons_succ]
  refine wpAnyK_take (i := 7) (v := ?_) rfl (by kernel_rfl) (fun _ _ _ h => h) (Or.inl ⟨by rfl, ?_⟩) (by assumption) ?_
  rotate_left
  · (intro w hSw; (try dsimp only at hSw); go_simp; try with_reducible rfl)
  try simp only [Act.put, List.getElem_toArray, List.getElem_cons_zero, List.getElem_cons_succ, List.setIfInBounds_toArray, List.set_cons_zero, List.set_cons_succ]
  refine wpAnyK_take (i := 8) (v := ?_) rfl (by kernel_rfl) (fun _ _ _ h => h) (Or.inl ⟨by rfl, ?_⟩) (by assumption) ?_
  rotate_left
  · (intro w hSw; (try dsimp only at hSw); go_simp; try with_reducible rfl)
  try simp only [Act.put, List.getElem_toArray, List.getElem_cons_zero, List.getElem_cons_succ, List.setIfInBounds_toArray, List.set_cons_zero, List.set_cons_succ]
  refine wpAnyK_two (i := 6) (j := 11) rfl rfl (by kernel_rfl) (fun K hK => ?_) (fun K hK => ?_)
  · go_simp
    obtain ⟨ux1, hv1⟩ : ∃ W', (W2.alloc (.cells (madeCells #[.int .i64 0] d) 3)).drew = W' := ⟨_, rfl⟩
    have hux1 : W2.drew.alloc (.cells (madeCells #[.int .i64 0] d) 3) = ux1 := hv1
    have hbx1 : Below W2.drew.heap.size W2.drew ux1 := by rw [← hux1]; exact (Below.refl _ _).alloc (Nat.le_refl _) _
    have N1 := Lib.hid (show ux1.ownsRow (A + 1) 3 1 (.slice (some ⟨W2.heap.size, 0, none⟩) d d) d (List.replicate d (Value.int .i64 0)) from by rw [← hux1]; exact made_own W2.drew (A + 1) d T0.out.2 hd1000)
    rw [hv1]
    clear hux1 hv1
    have Tx1 := Lib.hid (And.intro (T0.out.1.call hbx1) (show A + 1 ≤ ux1.heap.size from Nat.le_trans T0.out.2 hbx1.size))
    refine hK.out _ _ (KM.out _ Tx1.out.1.dm) (fun hHeld1 => ?_)
    clear hK K hHeld0 hbx1
    try simp only [Act.put, List.getElem_toArray, List.getElem_cons_zero, List.getElem_cons_succ, List.setIfInBounds_toArray, List.set_cons_zero, List.set_cons_succ]
    refine wpAnyK_two (i := 9) (j := 11) rfl rfl (by kernel_rfl) (fun K hK => ?_) (fun K hK => ?_)
    · obtain ⟨ad, had, hnews⟩ := Tx1.out.1.news hn1
      refine step_append_keeps _ rfl (.tmp 31) (.tmp 33) 22 rfl (A + 1) 3 ii0 (.int .i64 0) 8 Try.underlying22 ihi ihz0 ihz1 ihz2 rfl W2.heap.size d d (List.replicate d (Value.int .i64 0)) rfl N1.out ad n' cap' (zs'.map (Value.int .i64)) (by rw [← had]; rfl) (by rw [List.length_map, HNL.out, Nat.mul_one]) hnews (fun v hv => by obtain ⟨z, _, rfl⟩ := List.mem_map.1 hv; rfl) hn1 (by unfold maxLen; omega) (by omega) Tx1.out.2 ?_
      intro g2 c2 ux2 hown2 hgr2 hwh2 hlt2 _
      have N2 := Lib.hid hown2
      have hAg2 : A + 1 ≤ W2.heap.size := (N1.out.lt _ rfl).1
      have Tx2 := Lib.hid (And.intro (show DM w A a' n' cap' p' inc' ux2 from ⟨Tx1.out.1.x.box.grownN hgr2 (by intro e; have e2 := Option.some.inj e; omega), Tx1.out.1.res.grownN hgr2 (by intro e; have e2 := Option.some.inj e; have := Tx1.out.1.n1; omega), Tx1.out.1.below.grown hgr2 Tx1.out.1.below.size (fun j hj => by have e2 := Option.some.inj hj; have := Tx1.out.1.n1; omega)⟩) (show A + 1 ≤ ux2.heap.size from Nat.le_trans Tx1.out.2 hgr2.size))
      clear had hnews
      refine hK.out _ _ (KM.out _ Tx2.out.1) (fun hHeld2 => ?_)
      clear hK K hHeld1 hown2 hgr2 hwh2 hlt2
      try simp only [Act.put, List.getElem_toArray, List.getElem_cons_zero, List.getElem_cons_succ, List.setIfInBounds_toArray, List.set_cons_zero, List.set_cons_succ]
      refine wpAnyK_take (i := 10) (v := ?_) rfl (by kernel_rfl) (fun _ _ _ h => h) (Or.inl ⟨by rfl, ?_⟩) (by assumption) ?_
      rotate_left
      · (intro w hSw; (try dsimp only at hSw); go_simp; try with_reducible rfl)
      try simp only [Act.put, List.getElem_toArray, List.getElem_cons_zero, List.getElem_cons_succ, List.setIfInBounds_toArray, List.set_cons_zero, List.set_cons_succ]
      refine wpAnyK_step (i := 11) rfl (by kernel_rfl) (fun K hK => ?_)
      go_simp
      obtain ⟨ux3, hux3⟩ : ∃ W', ux2.alloc (.cells #[.slice none 0 0, .int .i64 0, .int .i64 0] 24) = W' := ⟨_, rfl⟩
      have hv3 := hux3
      have hbx3 : Below ux2.heap.size ux2 ux3 := by rw [← hux3]; exact (Below.refl _ _).alloc (Nat.le_refl _) _
      have NE3 := Lib.hid (show g2 ≠ ux2.heap.size from Nat.ne_of_lt (N2.out.lt _ rfl).2)
      have N3 := Lib.hid (show Cur3 ux3 ux2.heap.size (.slice none 0 0) (.int .i64 0) (.int .i64 0) ∧ A + 1 ≤ ux2.heap.size from ⟨by rw [← hux3]; exact Cur3.new ux2 _ _ _ _, Tx2.out.2⟩)
      rw [hv3]
      clear hux3 hv3
      have Tx3 := Lib.hid (And.intro (Tx2.out.1.call hbx3) (show A + 1 ≤ ux3.heap.size from Nat.le_trans Tx2.out.2 hbx3.size))
      have N2_3 := Lib.hid (owns_apart (b := A) N2.out (below_apart hbx3) (by omega))
      refine hK.out _ _ (KM.out _ Tx3.out.1) (fun hHeld3 => ?_)
      clear hK K hHeld2 hbx3
      try simp only [Act.put, List.getElem_toArray, List.getElem_cons_zero, List.getElem_cons_succ, List.setIfInBounds_toArray, List.set_cons_zero, List.set_cons_succ]
      refine wpAnyK_done (by kernel_rfl) ?_
      simp only [List.drop_succ_cons, List.drop_zero]
      clear hHeld3
      have RZ := Lib.hid (show RowZ ux3 (some ⟨g2, 0, none⟩) (d + n') c2 (List.replicate d 0 ++ zs') from by
        have h := N2_3.out
        rw [show (List.replicate d (Value.int .i64 0) ++ zs'.map (Value.int .i64)) = (List.replicate d (0 : Int) ++ zs').map (Value.int .i64) by simp] at h
        obtain ⟨a, c, hv, hr, _⟩ := rowZ_of_owns h (by omega) (fun i hi => HBD.out i hi)
        cases hv; exact hr)
      obtain ⟨wf, hwf⟩ : ∃ W', ((ux3.setCell ⟨ux2.heap.size, 0, none⟩ (.slice (some ⟨g2, 0, none⟩) (d + n') c2)).setCell ⟨ux2.heap.size, 1, none⟩ (.int .i64 p')).setCell ⟨ux2.heap.size, 2, none⟩ (.int .i64 inc') = W' := ⟨_, rfl⟩
      have HQ := Lib.hid (show (Cur3 wf (w.heap.size + 1) (.slice none 0 0) (.int .i64 0) (.int .i64 0) ∧ Below w.heap.size w wf) ∧ Cur3 wf ux2.heap.size (.slice (some ⟨g2, 0, none⟩) (d + n') c2) (.int .i64 p') (.int .i64 inc') ∧ RowZ wf (some ⟨g2, 0, none⟩) (d + n') c2 (List.replicate d 0 ++ zs') from by
        rw [← hwf]
        have a1 := N3.out.2
        have a2 := HAW.out
        have a3 := NE3.out
        have hq : ∀ x, (some (⟨g2, 0, none⟩ : Addr)) = some x → 1 ≤ d + n' → x.block ≠ ux2.heap.size := fun x hx _ => by cases hx; exact a3
        exact ⟨⟨(((Tx3.out.1.res.other (by omega) _ _).other (by omega) _ _).other (by omega) _ _), below_set3 Tx3.out.1.below (by omega) _ _ _⟩, N3.out.1.set _ _ _, ((RZ.out.store hq _ _).store hq _ _).store hq _ _⟩)
      have HWF := Lib.hid hwf
      obtain ⟨o0, o1, o2, o3, o4, o5⟩ := N3.out.1
      clear hwf
      go_upto_region 7 with fail
      try rw [HWF.out]
      clear o0 o1 o2 o3 o4 o5
      obtain ⟨o0, o1, o2, o3, o4, o5⟩ := HQ.out.2.1
      go_wp2_with fail
      clear o0 o1 o2 o3 o4 o5
      refine (rmade_ok _ _ _ _ _ _ HRAW.out _ HQ.out.2.2).mono ?_
      rintro e v9 ⟨hb, ⟨a9, n9, cap9, z9, p9, i9, rfl, hr, hf, hx⟩ | ⟨rfl, hno⟩⟩
      · have HP := Lib.hid (GivesE.post (E := eLater d zs p inc) (b := w.heap.size + 1) HQ.out.1.2 (by omega) HQ.out.1.1.lt hb hr hx (by rw [← HEE.out]; exact hf))
        obtain ⟨r0, r1, r2, r3, r4, r5⟩ := HQ.out.1.1.below hb
        clear hb hr hf hx
        go_wp2_with fail
        exact bodyPost_ret (v := .tuple #[curV a9 n9 cap9 p9 i9, .int .i64 0]) (by simp [results, Try.results37, go_sem, r0, r1, r2]) rfl HP.out
      · have HP := Lib.hid (GivesE.postNo (E := eLater d zs p inc) (b := w.heap.size + 1) HQ.out.1.2 (by omega) hb (by rw [← HEE.out]; exact hno))
        obtain ⟨r0, r1, r2, r3, r4, r5⟩ := HQ.out.1.1.below hb
        clear hb hno
        go_wp2_with fail
        exact bodyPost_ret (v := .tuple #[curV none 0 0 0 0, .int .i64 3]) (by simp [results, Try.results37, go_sem, r0, r1, r2]) rfl HP.out
    · go_simp
      obtain ⟨ux4, hux4⟩ : ∃ W', ux1.alloc (.cells #[.slice none 0 0, .int .i64 0, .int .i64 0] 24) = W' := ⟨_, rfl⟩
      have hv4 := hux4
      have hbx4 : Below ux1.heap.size ux1 ux4 := by rw [← hux4]; exact (Below.refl _ _).alloc (Nat.le_refl _) _
      have NE4 := Lib.hid (show W2.heap.size ≠ ux1.heap.size from Nat.ne_of_lt (N1.out.lt _ rfl).2)
      have N4 := Lib.hid (show Cur3 ux4 ux1.heap.size (.slice none 0 0) (.int .i64 0) (.int .i64 0) ∧ A + 1 ≤ ux1.heap.size from ⟨by rw [← hux4]; exact Cur3.new ux1 _ _ _ _, Tx1.out.2⟩)
      rw [hv4]
      clear hux4 hv4
      have Tx4 := Lib.hid (And.intro (Tx1.out.1.call hbx4) (show A + 1 ≤ ux4.heap.size from Nat.le_trans Tx1.out.2 hbx4.size))
      have N1_4 := Lib.hid (owns_apart (b := A) N1.out (below_apart hbx4) (by omega))
      refine hK.out _ _ (KM.out _ Tx4.out.1.dm) (fun hHeld4 => ?_)
      clear hK K hHeld1 hbx4
      try simp only [Act.put, List.getElem_toArray, List.getElem_cons_zero, List.getElem_cons_succ, List.setIfInBounds_toArray, List.set_cons_zero, List.set_cons_succ]
      refine wpAnyK_step (i := 9) rfl (by kernel_rfl) (fun K hK => ?_)
      obtain ⟨ad, had, hnews⟩ := Tx4.out.1.news hn1
      refine step_append_keeps _ rfl (.tmp 31) (.tmp 33) 22 rfl (A + 1) 3 ii0 (.int .i64 0) 8 Try.underlying22 ihi ihz0 ihz1 ihz2 rfl W2.heap.size d d (List.replicate d (Value.int .i64 0)) rfl N1_4.out ad n' cap' (zs'.map (Value.int .i64)) (by rw [← had]; rfl) (by rw [List.length_map, HNL.out, Nat.mul_one]) hnews (fun v hv => by obtain ⟨z, _, rfl⟩ := List.mem_map.1 hv; rfl) hn1 (by unfold maxLen; omega) (by omega) Tx4.out.2 ?_
      intro g5 c5 ux5 hown5 hgr5 hwh5 hlt5 _
      have N5 := Lib.hid hown5
      have hAg5 : A + 1 ≤ W2.heap.size := (N1_4.out.lt _ rfl).1
      have Tx5 := Lib.hid (And.intro (show DM w A a' n' cap' p' inc' ux5 from ⟨Tx4.out.1.x.box.grownN hgr5 (by intro e; have e2 := Option.some.inj e; omega), Tx4.out.1.res.grownN hgr5 (by intro e; have e2 := Option.some.inj e; have := Tx4.out.1.n1; omega), Tx4.out.1.below.grown hgr5 Tx4.out.1.below.size (fun j hj => by have e2 := Option.some.inj hj; have := Tx4.out.1.n1; omega)⟩) (show A + 1 ≤ ux5.heap.size from Nat.le_trans Tx4.out.2 hgr5.size))
      clear had hnews
      have NE5 := Lib.hid (show g5 ≠ ux1.heap.size from by
        have h1 := NE4.out
        have h2 := N4.out.1.lt
        rcases hwh5 with e | e <;> omega)
      have N4_5 := Lib.hid (And.intro (N4.out.1.grownN hgr5 (by intro e; exact NE4.out (Option.some.inj e))) N4.out.2)
      refine hK.out _ _ (KM.out _ Tx5.out.1) (fun hHeld5 => ?_)
      clear hK K hHeld4 hown5 hgr5 hwh5 hlt5
      try simp only [Act.put, List.getElem_toArray, List.getElem_cons_zero, List.getElem_cons_succ, List.setIfInBounds_toArray, List.set_cons_zero, List.set_cons_succ]
      refine wpAnyK_take (i := 10) (v := ?_) rfl (by kernel_rfl) (fun _ _ _ h => h) (Or.inl ⟨by rfl, ?_⟩) (by assumption) ?_
      rotate_left
      · (intro w hSw; (try dsimp only at hSw); go_simp; try with_reducible rfl)
      try simp only [Act.put, List.getElem_toArray, List.getElem_cons_zero, List.getElem_cons_succ, List.setIfInBounds_toArray, List.set_cons_zero, List.set_cons_succ]
      refine wpAnyK_done (by kernel_rfl) ?_
      simp only [List.drop_succ_cons, List.drop_zero]
      clear hHeld5
      have RZ := Lib.hid (show RowZ ux5 (some ⟨g5, 0, none⟩) (d + n') c5 (List.replicate d 0 ++ zs') from by
        have h := N5.out
        rw [show (List.replicate d (Value.int .i64 0) ++ zs'.map (Value.int .i64)) = (List.replicate d (0 : Int) ++ zs').map (Value.int .i64) by simp] at h
        obtain ⟨a, c, hv, hr, _⟩ := rowZ_of_owns h (by omega) (fun i hi => HBD.out i hi)
        cases hv; exact hr)
      obtain ⟨wf, hwf⟩ : ∃ W', ((ux5.setCell ⟨ux1.heap.size, 0, none⟩ (.slice (some ⟨g5, 0, none⟩) (d + n') c5)).setCell ⟨ux1.heap.size, 1, none⟩ (.int .i64 p')).setCell ⟨ux1.heap.size, 2, none⟩ (.int .i64 inc') = W' := ⟨_, rfl⟩
      have HQ := Lib.hid (show (Cur3 wf (w.heap.size + 1) (.slice none 0 0) (.int .i64 0) (.int .i64 0) ∧ Below w.heap.size w wf) ∧ Cur3 wf ux1.heap.size (.slice (some ⟨g5, 0, none⟩) (d + n') c5) (.int .i64 p') (.int .i64 inc') ∧ RowZ wf (some ⟨g5, 0, none⟩) (d + n') c5 (List.replicate d 0 ++ zs') from by
        rw [← hwf]
        have a1 := N4_5.out.2
        have a2 := HAW.out
        have a3 := NE5.out
        have hq : ∀ x, (some (⟨g5, 0, none⟩ : Addr)) = some x → 1 ≤ d + n' → x.block ≠ ux1.heap.size := fun x hx _ => by cases hx; exact a3
        exact ⟨⟨(((Tx5.out.1.res.other (by omega) _ _).other (by omega) _ _).other (by omega) _ _), below_set3 Tx5.out.1.below (by omega) _ _ _⟩, N4_5.out.1.set _ _ _, ((RZ.out.store hq _ _).store hq _ _).store hq _ _⟩)
      have HWF := Lib.hid hwf
      obtain ⟨o0, o1, o2, o3, o4, o5⟩ := N4_5.out.1
      clear hwf
      go_upto_region 7 with fail
      try rw [HWF.out]
      clear o0 o1 o2 o3 o4 o5
      obtain ⟨o0, o1, o2, o3, o4, o5⟩ := HQ.out.2.1
      go_wp2_with fail
      clear o0 o1 o2 o3 o4 o5
      refine (rmade_ok _ _ _ _ _ _ HRAW.out _ HQ.out.2.2).mono ?_
      rintro e v9 ⟨hb, ⟨a9, n9, cap9, z9, p9, i9, rfl, hr, hf, hx⟩ | ⟨rfl, hno⟩⟩
      · have HP := Lib.hid (GivesE.post (E := eLater d zs p inc) (b := w.heap.size + 1) HQ.out.1.2 (by omega) HQ.out.1.1.lt hb hr hx (by rw [← HEE.out]; exact hf))
        obtain ⟨r0, r1, r2, r3, r4, r5⟩ := HQ.out.1.1.below hb
        clear hb hr hf hx
        go_wp2_with fail
        exact bodyPost_ret (v := .tuple #[curV a9 n9 cap9 p9 i9, .int .i64 0]) (by simp [results, Try.results37, go_sem, r0, r1, r2]) rfl HP.out
      · have HP := Lib.hid (GivesE.postNo (E := eLater d zs p inc) (b := w.heap.size + 1) HQ.out.1.2 (by omega) hb (by rw [← HEE.out]; exact hno))
        obtain ⟨r0, r1, r2, r3, r4, r5⟩ := HQ.out.1.1.below hb
        clear hb hno
        go_wp2_with fail
        exact bodyPost_ret (v := .tuple #[curV none 0 0 0 0, .int .i64 3]) (by simp [results, Try.results37, go_sem, r0, r1, r2]) rfl HP.out
  · go_simp
    obtain ⟨ux6, hv6⟩ : ∃ W', (W2.alloc (.cells #[.slice none 0 0, .int .i64 0, .int .i64 0] 24)).drew = W' := ⟨_, rfl⟩
    have hux6 : W2.drew.alloc (.cells #[.slice none 0 0, .int .i64 0, .int .i64 0] 24) = ux6 := hv6
    have hbx6 : Below W2.drew.heap.size W2.drew ux6 := by rw [← hux6]; exact (Below.refl _ _).alloc (Nat.le_refl _) _
    have N6 := Lib.hid (show Cur3 ux6 W2.heap.size (.slice none 0 0) (.int .i64 0) (.int .i64 0) ∧ A + 1 ≤ W2.heap.size from ⟨by rw [← hux6]; exact Cur3.new W2.drew _ _ _ _, T0.out.2⟩)
    rw [hv6]
    clear hux6 hv6
    have Tx6 := Lib.hid (And.intro (T0.out.1.call hbx6) (show A + 1 ≤ ux6.heap.size from Nat.le_trans T0.out.2 hbx6.size))
    refine hK.out _ _ (KM.out _ Tx6.out.1.dm) (fun hHeld6 => ?_)
    clear hK K hHeld0 hbx6
    try simp only [Act.put, List.getElem_toArray, List.getElem_cons_zero, List.getElem_cons_succ, List.setIfInBounds_toArray, List.set_cons_zero, List.set_cons_succ]
    refine wpAnyK_step (i := 6) rfl (by kernel_rfl) (fun K hK => ?_)
    go_simp
    obtain ⟨ux7, hux7⟩ : ∃ W', ux6.alloc (.cells (madeCells #[.int .i64 0] d) 3) = W' := ⟨_, rfl⟩
    have hv7 := hux7
    have hbx7 : Below ux6.heap.size ux6 ux7 := by rw [← hux7]; exact (Below.refl _ _).alloc (Nat.le_refl _) _
    have NE7 := Lib.hid (show ux6.heap.size ≠ W2.heap.size from Nat.ne_of_gt N6.out.1.lt)
    have N7 := Lib.hid (show ux7.ownsRow (A + 1) 3 1 (.slice (some ⟨ux6.heap.size, 0, none⟩) d d) d (List.replicate d (Value.int .i64 0)) from by rw [← hux7]; exact made_own ux6 (A + 1) d Tx6.out.2 hd1000)
    rw [hv7]
    clear hux7 hv7
    have Tx7 := Lib.hid (And.intro (Tx6.out.1.call hbx7) (show A + 1 ≤ ux7.heap.size from Nat.le_trans Tx6.out.2 hbx7.size))
    have N6_7 := Lib.hid (And.intro (N6.out.1.below hbx7) N6.out.2)
    refine hK.out _ _ (KM.out _ Tx7.out.1.dm) (fun hHeld7 => ?_)
    clear hK K hHeld6 hbx7
    try simp only [Act.put, List.getElem_toArray, List.getElem_cons_zero, List.getElem_cons_succ, List.setIfInBounds_toArray, List.set_cons_zero, List.set_cons_succ]
    refine wpAnyK_step (i := 9) rfl (by kernel_rfl) (fun K hK => ?_)
    obtain ⟨ad, had, hnews⟩ := Tx7.out.1.news hn1
    refine step_append_keeps _ rfl (.tmp 31) (.tmp 33) 22 rfl (A + 1) 3 ii0 (.int .i64 0) 8 Try.underlying22 ihi ihz0 ihz1 ihz2 rfl ux6.heap.size d d (List.replicate d (Value.int .i64 0)) rfl N7.out ad n' cap' (zs'.map (Value.int .i64)) (by rw [← had]; rfl) (by rw [List.length_map, HNL.out, Nat.mul_one]) hnews (fun v hv => by obtain ⟨z, _, rfl⟩ := List.mem_map.1 hv; rfl) hn1 (by unfold maxLen; omega) (by omega) Tx7.out.2 ?_
    intro g8 c8 ux8 hown8 hgr8 hwh8 hlt8 _
    have N8 := Lib.hid hown8
    have hAg8 : A + 1 ≤ ux6.heap.size := (N7.out.lt _ rfl).1
    have Tx8 := Lib.hid (And.intro (show DM w A a' n' cap' p' inc' ux8 from ⟨Tx7.out.1.x.box.grownN hgr8 (by intro e; have e2 := Option.some.inj e; omega), Tx7.out.1.res.grownN hgr8 (by intro e; have e2 := Option.some.inj e; have := Tx7.out.1.n1; omega), Tx7.out.1.below.grown hgr8 Tx7.out.1.below.size (fun j hj => by have e2 := Option.some.inj hj; have := Tx7.out.1.n1; omega)⟩) (show A + 1 ≤ ux8.heap.size from Nat.le_trans Tx7.out.2 hgr8.size))
    clear had hnews
    have NE8 := Lib.hid (show g8 ≠ W2.heap.size from by
      have h1 := NE7.out
      have h2 := N6_7.out.1.lt
      rcases hwh8 with e | e <;> omega)
    have N6_7_8 := Lib.hid (And.intro (N6_7.out.1.grownN hgr8 (by intro e; exact NE7.out (Option.some.inj e))) N6_7.out.2)
    refine hK.out _ _ (KM.out _ Tx8.out.1) (fun hHeld8 => ?_)
    clear hK K hHeld7 hown8 hgr8 hwh8 hlt8
    try simp only [Act.put, List.getElem_toArray, List.getElem_cons_zero, List.getElem_cons_succ, List.setIfInBounds_toArray, List.set_cons_zero, List.set_cons_succ]
    refine wpAnyK_take (i := 10) (v := ?_) rfl (by kernel_rfl) (fun _ _ _ h => h) (Or.inl ⟨by rfl, ?_⟩) (by assumption) ?_
    rotate_left
    · (intro w hSw; (try dsimp only at hSw); go_simp; try with_reducible rfl)
    try simp only [Act.put, List.getElem_toArray, List.getElem_cons_zero, List.getElem_cons_succ, List.setIfInBounds_toArray, List.set_cons_zero, List.set_cons_succ]
    refine wpAnyK_done (by kernel_rfl) ?_
    simp only [List.drop_succ_cons, List.drop_zero]
    clear hHeld8
    have RZ := Lib.hid (show RowZ ux8 (some ⟨g8, 0, none⟩) (d + n') c8 (List.replicate d 0 ++ zs') from by
      have h := N8.out
      rw [show (List.replicate d (Value.int .i64 0) ++ zs'.map (Value.int .i64)) = (List.replicate d (0 : Int) ++ zs').map (Value.int .i64) by simp] at h
      obtain ⟨a, c, hv, hr, _⟩ := rowZ_of_owns h (by omega) (fun i hi => HBD.out i hi)
      cases hv; exact hr)
    obtain ⟨wf, hwf⟩ : ∃ W', ((ux8.setCell ⟨W2.heap.size, 0, none⟩ (.slice (some ⟨g8, 0, none⟩) (d + n') c8)).setCell ⟨W2.heap.size, 1, none⟩ (.int .i64 p')).setCell ⟨W2.heap.size, 2, none⟩ (.int .i64 inc') = W' := ⟨_, rfl⟩
    have HQ := Lib.hid (show (Cur3 wf (w.heap.size + 1) (.slice none 0 0) (.int .i64 0) (.int .i64 0) ∧ Below w.heap.size w wf) ∧ Cur3 wf W2.heap.size (.slice (some ⟨g8, 0, none⟩) (d + n') c8) (.int .i64 p') (.int .i64 inc') ∧ RowZ wf (some ⟨g8, 0, none⟩) (d + n') c8 (List.replicate d 0 ++ zs') from by
      rw [← hwf]
      have a1 := N6_7_8.out.2
      have a2 := HAW.out
      have a3 := NE8.out
      have hq : ∀ x, (some (⟨g8, 0, none⟩ : Addr)) = some x → 1 ≤ d + n' → x.block ≠ W2.heap.size := fun x hx _ => by cases hx; exact a3
      exact ⟨⟨(((Tx8.out.1.res.other (by omega) _ _).other (by omega) _ _).other (by omega) _ _), below_set3 Tx8.out.1.below (by omega) _ _ _⟩, N6_7_8.out.1.set _ _ _, ((RZ.out.store hq _ _).store hq _ _).store hq _ _⟩)
    have HWF := Lib.hid hwf
    obtain ⟨o0, o1, o2, o3, o4, o5⟩ := N6_7_8.out.1
    clear hwf
    go_upto_region 7 with fail
    try rw [HWF.out]
    clear o0 o1 o2 o3 o4 o5
    obtain ⟨o0, o1, o2, o3, o4, o5⟩ := HQ.out.2.1
    go_wp2_with fail
    clear o0 o1 o2 o3 o4 o5
    refine (rmade_ok _ _ _ _ _ _ HRAW.out _ HQ.out.2.2).mono ?_
    rintro e v9 ⟨hb, ⟨a9, n9, cap9, z9, p9, i9, rfl, hr, hf, hx⟩ | ⟨rfl, hno⟩⟩
    · have HP := Lib.hid (GivesE.post (E := eLater d zs p inc) (b := w.heap.size + 1) HQ.out.1.2 (by omega) HQ.out.1.1.lt hb hr hx (by rw [← HEE.out]; exact hf))
      obtain ⟨r0, r1, r2, r3, r4, r5⟩ := HQ.out.1.1.below hb
      clear hb hr hf hx
      go_wp2_with fail
      exact bodyPost_ret (v := .tuple #[curV a9 n9 cap9 p9 i9, .int .i64 0]) (by simp [results, Try.results37, go_sem, r0, r1, r2]) rfl HP.out
    · have HP := Lib.hid (GivesE.postNo (E := eLater d zs p inc) (b := w.heap.size + 1) HQ.out.1.2 (by omega) hb (by rw [← HEE.out]; exact hno))
      obtain ⟨r0, r1, r2, r3, r4, r5⟩ := HQ.out.1.1.below hb
      clear hb hno
      go_wp2_with fail
      exact bodyPost_ret (v := .tuple #[curV none 0 0 0 0, .int .i64 3]) (by simp [results, Try.results37, go_sem, r0, r1, r2]) rfl HP.out

theorem line_good7 (x : Int) (h0 : 0 ≤ x) (h1 : x ≤ 1000) : Good [0] 1 x := by
  refine ⟨by decide, by decide, by decide, by decide, h0, by omega, fun i hi => ?_, fun i hi => absurd hi (by simp), fun h => absurd h (by decide), fun _ => by show (0 : Int) ≤ 0 + x; omega⟩
  obtain rfl : i = 0 := by simpa using hi
  exact .inl ⟨by decide, by decide⟩
theorem line_fin7 : ¬ InfC [0] := by rw [infC_iff]; decide
theorem line_at7 (x : Int) (h0 : 0 ≤ x) (h1 : x ≤ 1000) (t : Nat) : atC [0] 1 x t = x * (t : Int) := by
  have hp := (line_good7 x h0 h1).per line_fin7
  induction t with
  | zero => show (0 : Int) = x * 0; rw [Int.mul_zero]
  | succ t ih => have := hp t (Nat.zero_le _); rw [this, ih]; grind
theorem line_eC (x : Int) (h0 : 0 ≤ x) (h1 : x ≤ 1000) : eC [0] 1 x = fun (t : Nat) => some (x * (t : Int)) := funext fun t => by rw [eC_fin line_fin7, line_at7 x h0 h1]
theorem line_raw (x : Int) (h0 : 0 ≤ x) (h1 : x ≤ 1000) : RawE [0] 1 x (eC [0] 1 x) := by
  refine .inl ⟨⟨by decide, by decide, by decide, by decide, h0, by omega, fun i hi => ?_⟩, fun t => eC_fin line_fin7 1 x t⟩
  obtain rfl : i = 0 := by simpa using hi
  exact ⟨by decide, by decide⟩
theorem flat_good7 (v : Int) (h0 : 0 ≤ v) (h1 : v ≤ 1000) : Good [0, v] 1 0 := by
  refine ⟨by show 2 ≤ 400; omega, by decide, by decide, by show 1 ≤ 2; omega, by decide, by decide, fun i hi => ?_, fun i hi => ?_, fun h => ?_, fun _ => ?_⟩
  · rcases (show i = 0 ∨ i = 1 by have : i < 2 := hi; omega) with rfl | rfl
    · exact .inl ⟨by show (0 : Int) ≤ 0; omega, by show (0 : Int) ≤ 1073741824; omega⟩
    · exact .inl ⟨h0, by show v ≤ _; omega⟩
  · obtain rfl : i = 0 := by have : i + 1 < 2 := hi; omega
    exact h0
  · exact absurd (show v = infV from h) (by unfold infV; omega)
  · show v ≤ v + 0; omega
theorem flat_fin7 (v : Int) (h0 : 0 ≤ v) (h1 : v ≤ 1000) : ¬ InfC [0, v] := by rw [infC_iff]; show ¬ v = infV; unfold infV; omega
theorem flat_at7 (v : Int) (h0 : 0 ≤ v) (h1 : v ≤ 1000) (t : Nat) : atC [0, v] 1 0 t = if t = 0 then 0 else v := by
  have hp := (flat_good7 v h0 h1).per (flat_fin7 v h0 h1)
  induction t with
  | zero => rfl
  | succ t ih =>
    by_cases h : t = 0
    · subst h; rfl
    · have := hp t (by show 2 - 1 ≤ t; omega)
      rw [this, ih, if_neg h, if_neg (by omega)]; omega
theorem flat_raw (v : Int) (h0 : 0 ≤ v) (h1 : v ≤ 1000) : RawE [0, v] 1 0 (eC [0, v] 1 0) := by
  refine .inl ⟨⟨by show 2 ≤ 8192; omega, by decide, by decide, by show 1 ≤ 2; omega, by decide, by decide, fun i hi => ?_⟩, fun t => eC_fin (flat_fin7 v h0 h1) 1 0 t⟩
  rcases (show i = 0 ∨ i = 1 by have : i < 2 := hi; omega) with rfl | rfl
  · exact ⟨by show (0 : Int) ≤ 0; omega, by show (0 : Int) ≤ 2251799813685248; omega⟩
  · exact ⟨h0, by show v ≤ _; omega⟩

set_option maxRecDepth 100000 in
set_option maxHeartbeats 1600000 in
theorem rline7 (x : Int) (h0 : 0 ≤ x) (h1 : x ≤ 1000) (w : World) : Calls Try.prog 42 #[.int .i64 x] w (GivesOk (eC [0] 1 x) w) := by
  obtain ⟨W, hW⟩ : ∃ W, (w.alloc (.cells #[.slice none 0 0, .int .i64 0, .int .i64 0] 24)).alloc (.cells #[.int .i64 0] 3) = W := ⟨_, rfl⟩
  have hB : Below w.heap.size w W := by rw [← hW]; exact ((Below.refl _ _).alloc (Nat.le_refl _) _).alloc (by simp) _
  have KR := Lib.hid (show Cur3 W w.heap.size (.slice none 0 0) (.int .i64 0) (.int .i64 0) by rw [← hW]; exact (Cur3.new w _ _ _ _).alloc _)
  have hr := rowZ_lit (w.alloc (.cells #[.slice none 0 0, .int .i64 0, .int .i64 0] 24)) [0] 3 (by decide) (by decide)
  rw [show (w.alloc (.cells #[.slice none 0 0, .int .i64 0, .int .i64 0] 24)).heap.size = w.heap.size + 1 by simp] at hr
  have HR := Lib.hid (show RowZ W (some ⟨w.heap.size + 1, 0, none⟩) 1 1 [0] by rw [← hW]; exact hr)
  have HB := Lib.hid hB
  have HW := Lib.hid hW
  have tx : ¬ x < 0 := by omega
  clear hr hB hW
  go_enter Try.func42, Try.ntmps42
  go_wp2_with fail
  try rw [HW.out]
  refine ((rmade_ok (some ⟨w.heap.size + 1, 0, none⟩) 1 1 [0] 1 x (line_raw x h0 h1) _ HR.out).mono fun _ _ h => h.ok (self_can (line_good7 x h0 h1))).mono ?_
  rintro e v ⟨a5, n5, cap5, zs5, p5, inc5, rfl, hb2, hr5, hf5, hx5⟩
  have HP := Lib.hid ((GivesE.post (b := w.heap.size) HB.out (by omega) KR.out.lt hb2 hr5 hx5 hf5).ok (self_can (line_good7 x h0 h1)))
  obtain ⟨d0, d1, d2, e0, e1, e2⟩ := KR.out.below hb2
  clear hb2 hr5 hf5 hx5
  go_wp2_with fail
  exact bodyPost_ret (v := .tuple #[curV a5 n5 cap5 p5 inc5, .int .i64 0]) (by simp [results, Try.results42, go_sem, d0, d1, d2]) rfl HP.out

set_option maxRecDepth 100000 in
set_option maxHeartbeats 1600000 in
theorem rflat7 (x : Int) (h0 : 0 ≤ x) (h1 : x ≤ 1000) (w : World) : Calls Try.prog 43 #[.int .i64 x] w (GivesOk (eC [0, x] 1 0) w) := by
  obtain ⟨W, hW⟩ : ∃ W, (w.alloc (.cells #[.slice none 0 0, .int .i64 0, .int .i64 0] 24)).alloc (.cells #[.int .i64 0, .int .i64 x] 3) = W := ⟨_, rfl⟩
  have hB : Below w.heap.size w W := by rw [← hW]; exact ((Below.refl _ _).alloc (Nat.le_refl _) _).alloc (by simp) _
  have KR := Lib.hid (show Cur3 W w.heap.size (.slice none 0 0) (.int .i64 0) (.int .i64 0) by rw [← hW]; exact (Cur3.new w _ _ _ _).alloc _)
  have hr := rowZ_lit (w.alloc (.cells #[.slice none 0 0, .int .i64 0, .int .i64 0] 24)) [0, x] 3 (by intro z hz; rcases List.mem_cons.1 hz with rfl | hz; exact ⟨by decide, by decide⟩; rcases List.mem_cons.1 hz with rfl | hz; exact ⟨by omega, by omega⟩; cases hz) (by show 2 ≤ 1000; omega)
  rw [show (w.alloc (.cells #[.slice none 0 0, .int .i64 0, .int .i64 0] 24)).heap.size = w.heap.size + 1 by simp] at hr
  have HR := Lib.hid (show RowZ W (some ⟨w.heap.size + 1, 0, none⟩) 2 2 [0, x] by rw [← hW]; exact hr)
  have HB := Lib.hid hB
  have HW := Lib.hid hW
  have tx : ¬ x < 0 := by omega
  have tm : ¬ (1073741825 : Int) < x := by omega
  have tm2 : decide ((1073741825 : Int) < x) = false := decide_eq_false tm
  clear hr hB hW
  go_enter Try.func43, Try.ntmps43
  go_wp2_with fail
  try rw [HW.out]
  refine ((rmade_ok (some ⟨w.heap.size + 1, 0, none⟩) 2 2 [0, x] 1 0 (flat_raw x h0 h1) _ HR.out).mono fun _ _ h => h.ok (self_can (flat_good7 x h0 h1))).mono ?_
  rintro e v ⟨a5, n5, cap5, zs5, p5, inc5, rfl, hb2, hr5, hf5, hx5⟩
  have HP := Lib.hid ((GivesE.post (b := w.heap.size) HB.out (by omega) KR.out.lt hb2 hr5 hx5 hf5).ok (self_can (flat_good7 x h0 h1)))
  obtain ⟨d0, d1, d2, e0, e1, e2⟩ := KR.out.below hb2
  clear hb2 hr5 hf5 hx5
  go_wp2_with fail
  exact bodyPost_ret (v := .tuple #[curV a5 n5 cap5 p5 inc5, .int .i64 0]) (by simp [results, Try.results43, go_sem, d0, d1, d2]) rfl HP.out

section
variable (a1 : Option Addr) (n1 cap1 : Nat) (z1 : List Int) (p1 : Nat) (i1 : Int) (g1 : Good z1 p1 i1) (a2 : Option Addr) (n2 cap2 : Nat) (z2 : List Int) (p2 : Nat) (i2 : Int) (g2 : Good z2 p2 i2) (h1 : Day (eC z1 p1 i1)) (h2 : Day (eC z2 p2 i2))
    (w : World) (r1 : RowZ w a1 n1 cap1 z1) (r2 : RowZ w a2 n2 cap2 z2)
include g1 g2 h1 h2 r1 r2
theorem rmin_day7 : Calls Try.prog 36 #[curV a1 n1 cap1 p1 i1, curV a2 n2 cap2 p2 i2] w (GivesE (eMin z1 p1 i1 z2 p2 i2) w) := by
  obtain ⟨L, hL, hl⟩ := lcm_day g1 g2 h1 h2
  exact rmin_ok a1 n1 cap1 z1 p1 i1 g1 a2 n2 cap2 z2 p2 i2 g2 L hl hL w r1 r2
end

end Go.Proofs.Ytladmpoopfabdaa

namespace Go.Proofs.Ytladmpoopfabdaa
set_option linter.unusedVariables false

/-- A line from the tick d on. -/
def lineE (x : Int) (d : Nat) (t : Nat) : Option Int := some (x * ((t - d : Nat) : Int))

theorem lineE_conv (a b : Int) (m n : Nat) (ha : 0 ≤ a) (hb : 0 ≤ b) : oconv (lineE a m) (lineE b n) = lineE (min a b) (m + n) := by
  refine funext fun t => ole_anti ?_ (oconv_great fun s hs => ?_)
  · rcases Int.le_total a b with h | h
    · have k := oconv_le (a := lineE a m) (b := lineE b n) (show t - n ≤ t by omega)
      have e : oadd (lineE a m (t - n)) (lineE b n (t - (t - n))) = lineE (min a b) (m + n) t := by
        show some (a * ((t - n - m : Nat) : Int) + b * ((t - (t - n) - n : Nat) : Int)) = some (min a b * ((t - (m + n) : Nat) : Int))
        rw [show t - (t - n) - n = 0 by omega, show t - n - m = t - (m + n) by omega, Int.min_eq_left h]
        simp
      rw [e] at k; exact k
    · have k := oconv_le (a := lineE a m) (b := lineE b n) (show min m t ≤ t by omega)
      have e : oadd (lineE a m (min m t)) (lineE b n (t - min m t)) = lineE (min a b) (m + n) t := by
        show some (a * ((min m t - m : Nat) : Int) + b * ((t - min m t - n : Nat) : Int)) = some (min a b * ((t - (m + n) : Nat) : Int))
        rw [show min m t - m = 0 by omega, show t - min m t - n = t - (m + n) by omega, Int.min_eq_right h]
        simp
      rw [e] at k; exact k
  · show ole (some (min a b * ((t - (m + n) : Nat) : Int))) (some (a * ((s - m : Nat) : Int) + b * ((t - s - n : Nat) : Int)))
    refine ole_some ?_
    have h1 : min a b * ((s - m : Nat) : Int) ≤ a * ((s - m : Nat) : Int) := Int.mul_le_mul_of_nonneg_right (Int.min_le_left a b) (by omega)
    have h2 : min a b * ((t - s - n : Nat) : Int) ≤ b * ((t - s - n : Nat) : Int) := Int.mul_le_mul_of_nonneg_right (Int.min_le_right a b) (by omega)
    have h3 : min a b * ((t - (m + n) : Nat) : Int) ≤ min a b * (((s - m : Nat) : Int) + ((t - s - n : Nat) : Int)) := Int.mul_le_mul_of_nonneg_left (by omega) (by omega)
    rw [Int.mul_add] at h3
    omega

theorem line_later {zs : List Int} {p : Nat} {inc x : Int} (h : ∀ t, eC zs p inc t = lineE x 0 t) (d : Nat) : eLater d zs p inc = lineE x d := by
  refine funext fun t => ?_
  unfold eLater
  by_cases h1 : t < d
  · rw [if_pos h1]; show some 0 = some (x * ((t - d : Nat) : Int)); rw [show t - d = 0 by omega]; simp
  · rw [if_neg h1, h]; show some (x * ((t - d - 0 : Nat) : Int)) = _; rw [show t - d - 0 = t - d by omega]; rfl

theorem lineE_day (x : Int) (h0 : 0 ≤ x) (d : Nat) : Day (lineE x d) := by
  refine ⟨d, 24 * x, fun t ht => ?_, .inr fun t _ => rfl⟩
  show x * ((t + 24 - d : Nat) : Int) = x * ((t - d : Nat) : Int) + 24 * x
  rw [show ((t + 24 - d : Nat) : Int) = ((t - d : Nat) : Int) + 24 by omega, Int.mul_add]
  omega

/-- A function of numbers that is 0 at 0 convolved with a flat one is the lesser of both. -/
theorem conv_flat {f : Nat → Option Int} (v : Int) (h0 : f 0 = some 0) (hn : ∀ t x, f t = some x → 0 ≤ x) (h1 : 0 ≤ v) :
    oconv f (fun t => some (if t = 0 then 0 else v)) = fun t => omin (f t) (some (if t = 0 then 0 else v)) := by
  refine funext fun t => ole_anti ?_ (oconv_great fun s hs => ?_)
  · refine ole_omin_of ?_ ?_
    · have k := oconv_le (a := f) (b := fun t => some (if t = 0 then 0 else v)) (Nat.le_refl t)
      rw [show oadd (f t) ((fun t => some (if t = 0 then (0 : Int) else v)) (t - t)) = f t by
        show oadd (f t) (some (if t - t = 0 then 0 else v)) = f t
        rw [if_pos (by omega)]; cases f t with
          | none => rfl
          | some x => show some (x + 0) = _; rw [Int.add_zero]] at k
      exact k
    · have k := oconv_le (a := f) (b := fun t => some (if t = 0 then 0 else v)) (Nat.zero_le t)
      rw [h0] at k
      rw [show oadd (some 0) ((fun t => some (if t = 0 then (0 : Int) else v)) (t - 0)) = some (if t = 0 then 0 else v) by
        show some (0 + (if t - 0 = 0 then 0 else v)) = _; rw [Int.zero_add, Nat.sub_zero]] at k
      exact k
  · by_cases hst : s = t
    · subst hst
      rw [show oadd (f s) ((fun t => some (if t = 0 then (0 : Int) else v)) (s - s)) = f s by
        show oadd (f s) (some (if s - s = 0 then 0 else v)) = f s
        rw [if_pos (by omega)]; cases f s with
          | none => rfl
          | some x => show some (x + 0) = _; rw [Int.add_zero]]
      exact ole_omin_l _ _
    · refine ole_trans (ole_omin_r _ _) ?_
      show ole _ (oadd (f s) (some (if t - s = 0 then 0 else v)))
      rw [if_neg (by omega), if_neg (by omega)]
      intro y hy
      obtain ⟨x, z, hx, hz, rfl⟩ := both_some hy
      cases hz
      exact ⟨v, rfl, by have := hn s x hx; omega⟩
end Go.Proofs.Ytladmpoopfabdaa
