/- Of and Subadditive of the closure. By the verifier's side. -/
import Derived.Test.YtcpfphlijeajiaaGcCloE
import Derived.Test.YtcpfphlijeajiaaGcCloC
import Derived.Test.YtcpfphlijeajiaaGcCurW
import Derived.Test.YtcpfphlijeajiaaGcRefARefP
import Derived.Test.YtcpfphlijeajiaaGcPwG
namespace Go.Proofs.Ytcpfphlijeajiaa
open Go.RowKit
set_option linter.unusedSimpArgs false
set_option linter.unusedVariables false

/-- What Of hands back. -/
def GivesCof (ys : List Int) (q : Nat) (jnc : Int) (w : World) (e : Ending) (w' : World) : Prop :=
  Below w.heap.size w w' ∧ ((∃ (a : Option Addr) (n cap : Nat) (hs : List Int) (r : Nat) (knc : Int),
    e = .returned (.tuple #[curV a n cap r knc, .int .i64 0]) ∧ RowZ w' a n cap hs ∧ EForm hs r knc (eClo ys q jnc) ∧ ys.length ≤ 60 ∧ comL q hs r ≤ 120 ∧ ∀ x, a = some x → w.heap.size ≤ x.block) ∨
    (e = .returned (.tuple #[curV none 0 0 0 0, .int .i64 3]) ∧ ¬ CloCan ys q jnc))
theorem GivesCof.post {ys : List Int} {q : Nat} {jnc : Int} {w w1 w2 : World} {b : Nat} {a : Option Addr} {n cap : Nat} {hs : List Int} {r : Nat} {knc : Int} (hB : Below w.heap.size w w1) (hb1 : w.heap.size ≤ b) (hb2 : b < w1.heap.size) (h2 : Below w1.heap.size w1 w2) (hr : RowZ w2 a n cap hs) (hx : ∀ x, a = some x → w1.heap.size ≤ x.block) (hf : EForm hs r knc (eClo ys q jnc)) (h60 : ys.length ≤ 60) (hL : comL q hs r ≤ 120) :
    GivesCof ys q jnc w (.returned (.tuple #[curV a n cap r knc, .int .i64 0])) (((w2.setCell ⟨b, 0, none⟩ (.slice a n cap)).setCell ⟨b, 1, none⟩ (.int .i64 r)).setCell ⟨b, 2, none⟩ (.int .i64 knc)) := by
  have hne : ∀ x : Addr, a = some x → 1 ≤ n → x.block ≠ b := fun x h _ => by have := hx x h; omega
  exact ⟨below_set3 (hB.trans (h2.mono hB.size)) hb1 _ _ _, .inl ⟨a, n, cap, hs, r, knc, rfl, ((hr.store hne _ _).store hne _ _).store hne _ _, hf, h60, hL, fun x h => by have := hx x h; have := hB.size; omega⟩⟩

/-- The curve's box and the result's. -/
structure OF (w : World) (a : Option Addr) (n cap : Nat) (zs : List Int) (p : Nat) (inc : Int) (u : World) : Prop where
  fb : Cur3 u w.heap.size (.slice a n cap) (.int .i64 p) (.int .i64 inc)
  res : Cur3 u (w.heap.size + 1) (.slice none 0 0) (.int .i64 0) (.int .i64 0)
  row : RowZ u a n cap zs
  below : Below w.heap.size w u
  sz : w.heap.size + 1 < u.heap.size
theorem OF.call {w u v : World} {a : Option Addr} {n cap : Nat} {zs : List Int} {p : Nat} {inc : Int} (h : OF w a n cap zs p inc u) (hb : Below u.heap.size u v) : OF w a n cap zs p inc v :=
  ⟨h.fb.below hb, h.res.below hb, h.row.under hb, h.below.trans (hb.mono h.below.size), Nat.lt_of_lt_of_le h.sz hb.size⟩

set_option maxRecDepth 100000 in
set_option maxHeartbeats 3200000 in
theorem clof_any (a : Option Addr) (n cap : Nat) (zs : List Int) (p : Nat) (inc : Int) (g : Good zs p inc) {ys : List Int} {q : Nat} {jnc : Int} (hn : NormC zs p inc ys q jnc) (w : World) (h : RowZ w a n cap zs) :
    Calls Try.prog 19 #[curV a n cap p inc] w (GivesCof ys q jnc w) := by
  have G0 := Lib.hid g
  have HN := Lib.hid hn
  obtain ⟨W, hW⟩ : ∃ W, (w.alloc (.cells #[.slice a n cap, .int .i64 p, .int .i64 inc] 24)).alloc (.cells #[.slice none 0 0, .int .i64 0, .int .i64 0] 24) = W := ⟨_, rfl⟩
  have hB : Below w.heap.size w W := by rw [← hW]; exact ((Below.refl _ _).alloc (Nat.le_refl _) _).alloc (by simp) _
  have T0 := Lib.hid (show OF w a n cap zs p inc W from ⟨by rw [← hW]; exact (Cur3.new w _ _ _ _).alloc _, by rw [← hW]; exact Cur3.new2 w _ _ _ _ _, h.under hB, hB, by rw [← hW]; simp⟩)
  have HW := Lib.hid hW
  obtain ⟨c0, c1, c2, f0, f1, f2⟩ := T0.out.fb
  clear g hn h hB hW
  go_enter Try.func19, Try.ntmps19
  go_wp2_with fail
  try rw [HW.out]
  refine (cprove_any a n cap zs p inc G0.out HN.out _ T0.out.row).mono ?_
  rintro e w3 ⟨hb, ⟨a5, n5, cap5, hs, r, knc, at1, m, mc, ts, rfl, hr, hr2, hc, hx, hx2⟩ | ⟨rfl, hno⟩⟩
  · obtain ⟨fr, hfr⟩ : ∃ k, horC ys q hs r (comL q hs r) = k := ⟨_, rfl⟩
    rw [hfr]
    obtain ⟨W4, hW4⟩ : ∃ W', w3.alloc (.cells #[.slice a5 n5 cap5, .int .i64 r, .int .i64 knc, .int .i64 fr, .slice at1 m mc] 36) = W' := ⟨_, rfl⟩
    have hbx := qbox_below w3 (.cells #[.slice a5 n5 cap5, .int .i64 r, .int .i64 knc, .int .i64 fr, .slice at1 m mc] 36)
    have T4 := Lib.hid (show OF w a n cap zs p inc W4 from by rw [← hW4]; exact (T0.out.call hb).call hbx)
    have HQ := Lib.hid (show GivesCof ys q jnc w (.returned (.tuple #[curV a5 n5 cap5 r knc, .int .i64 0])) (((W4.setCell ⟨w.heap.size + 1, 0, none⟩ (.slice a5 n5 cap5)).setCell ⟨w.heap.size + 1, 1, none⟩ (.int .i64 r)).setCell ⟨w.heap.size + 1, 2, none⟩ (.int .i64 knc)) from by
      have hb4 : Below W.heap.size W W4 := by rw [← hW4]; exact hb.trans (hbx.mono hb.size)
      exact GivesCof.post T0.out.below (by omega) T0.out.sz hb4 (by rw [← hW4]; exact hr.under hbx) hx hc.form hc.few hc.l)
    have PB := Lib.hid (show P5 W4 w3.heap.size (.slice a5 n5 cap5) (.int .i64 r) (.int .i64 knc) (.int .i64 fr) (.slice at1 m mc) from by rw [← hW4]; exact p5_new w3 _ _ _ _ _ _)
    have HW4 := Lib.hid hW4
    clear hb hr hr2 hc hx hx2 hbx hW4 hfr c0 c1 c2 f0 f1 f2
    go_upto_region 2 with fail
    try rw [HW4.out]
    obtain ⟨⟨c0, c1, c2, f0, f1, f2⟩, c3, c4, f3, f4⟩ := PB.out
    obtain ⟨d0, d1, d2, g0, g1, g2⟩ := T4.out.res
    go_wp2_with fail
    exact bodyPost_ret (v := .tuple #[curV a5 n5 cap5 r knc, .int .i64 0]) (by simp [results, Try.results19, go_sem, d0, d1, d2]) rfl HQ.out
  · obtain ⟨W4, hW4⟩ : ∃ W', w3.alloc (.cells #[.slice none 0 0, .int .i64 0, .int .i64 0, .int .i64 0, .slice none 0 0] 36) = W' := ⟨_, rfl⟩
    have hbx := qbox_below w3 (.cells #[.slice none 0 0, .int .i64 0, .int .i64 0, .int .i64 0, .slice none 0 0] 36)
    have T4 := Lib.hid (show OF w a n cap zs p inc W4 from by rw [← hW4]; exact (T0.out.call hb).call hbx)
    have HQ := Lib.hid (show GivesCof ys q jnc w (.returned (.tuple #[curV none 0 0 0 0, .int .i64 3])) (((W4.setCell ⟨w.heap.size + 1, 0, none⟩ (.slice none 0 0)).setCell ⟨w.heap.size + 1, 1, none⟩ (.int .i64 0)).setCell ⟨w.heap.size + 1, 2, none⟩ (.int .i64 0)) from
      ⟨below_set3 T4.out.below (by omega) _ _ _, .inr ⟨rfl, hno⟩⟩)
    have PB := Lib.hid (show P5 W4 w3.heap.size (.slice none 0 0) (.int .i64 0) (.int .i64 0) (.int .i64 0) (.slice none 0 0) from by rw [← hW4]; exact p5_new w3 _ _ _ _ _ _)
    have HW4 := Lib.hid hW4
    clear hb hno hbx hW4 c0 c1 c2 f0 f1 f2
    go_upto_region 2 with fail
    try rw [HW4.out]
    obtain ⟨⟨c0, c1, c2, f0, f1, f2⟩, c3, c4, f3, f4⟩ := PB.out
    obtain ⟨d0, d1, d2, g0, g1, g2⟩ := T4.out.res
    go_wp2_with fail
    exact bodyPost_ret (v := .tuple #[curV none 0 0 0 0, .int .i64 3]) (by simp [results, Try.results19, go_sem, d0, d1, d2]) rfl HQ.out

set_option maxRecDepth 100000 in
set_option maxHeartbeats 3200000 in
theorem csub_ok (a : Option Addr) (n cap : Nat) (zs : List Int) (p : Nat) (inc : Int) (g : Good zs p inc) (b : Bool) (hb : b = true ↔ SubA (eC zs p inc)) (w : World) (h : RowZ w a n cap zs) :
    Calls Try.prog 23 #[curV a n cap p inc] w (Says (.tuple #[.bool b, .int .i64 0]) w) := by
  have G0 := Lib.hid g
  have HB := Lib.hid hb
  obtain ⟨W, hW⟩ : ∃ W, w.alloc (.cells #[.slice a n cap, .int .i64 p, .int .i64 inc] 24) = W := ⟨_, rfl⟩
  have hB : Below w.heap.size w W := by rw [← hW]; exact (Below.refl _ _).alloc (Nat.le_refl _) _
  have FB := Lib.hid (show Cur3 W w.heap.size (.slice a n cap) (.int .i64 p) (.int .i64 inc) from by rw [← hW]; exact Cur3.new w _ _ _ _)
  have RW := Lib.hid (h.under hB)
  have HBL := Lib.hid hB
  have HW := Lib.hid hW
  obtain ⟨c0, c1, c2, f0, f1, f2⟩ := FB.out
  clear g h hb hB hW
  go_enter Try.func23, Try.ntmps23
  go_upto_region 1 with fail
  try rw [HW.out]
  go_wp2_with fail
  refine (normal_ok a n cap zs p inc G0.out _ RW.out).mono ?_
  rintro e w1 ⟨a3, n3, cap3, x1, r1, k1, rfl, hb, hr, hnn, hx⟩
  have GX := Lib.hid (hnn.good G0.out)
  have HB2 := Lib.hid (show b = true ↔ SubA (eC x1 r1 k1) from by rw [funext (hnn.eform G0.out).2.1]; exact HB.out)
  obtain ⟨W1, hW1⟩ : ∃ W', (((w1.setCell ⟨w.heap.size, 0, none⟩ (.slice a3 n3 cap3)).setCell ⟨w.heap.size, 1, none⟩ (.int .i64 r1)).setCell ⟨w.heap.size, 2, none⟩ (.int .i64 k1)) = W' := ⟨_, rfl⟩
  have F1 := Lib.hid (show Cur3 W1 w.heap.size (.slice a3 n3 cap3) (.int .i64 r1) (.int .i64 k1) from by rw [← hW1]; exact (FB.out.below hb).set _ _ _)
  have R1 := Lib.hid (show RowZ W1 a3 n3 cap3 x1 from by
    have q : ∀ x, a3 = some x → 1 ≤ n3 → x.block ≠ w.heap.size := fun x h _ => by have := hx x h; have := FB.out.lt; omega
    rw [← hW1]; exact ((hr.store q _ _).store q _ _).store q _ _)
  have BL1 := Lib.hid (show Below w.heap.size w W1 from by rw [← hW1]; exact below_set3 (HBL.out.trans (hb.mono HBL.out.size)) (Nat.le_refl _) _ _ _)
  have HW1 := Lib.hid hW1
  clear c0 c1 c2 f0 f1 f2
  obtain ⟨c0, c1, c2, f0, f1, f2⟩ := FB.out.below hb
  clear hb hr hnn hx hW1
  go_upto_region 2 with fail
  try rw [HW1.out]
  clear c0 c1 c2 f0 f1 f2
  obtain ⟨c0, c1, c2, f0, f1, f2⟩ := F1.out
  go_wp2_with fail
  refine (subadd_any a3 n3 cap3 x1 r1 k1 GX.out b HB2.out _ R1.out).mono ?_
  rintro e w2 ⟨rfl, hb⟩
  have BL2 := Lib.hid (BL1.out.trans (hb.mono BL1.out.size))
  clear hb c0 c1 c2 f0 f1 f2
  go_wp2_with fail
  exact bodyPost_ret (v := .tuple #[.bool b, .int .i64 0]) (by simp [results, Try.results23, go_sem]) rfl ⟨rfl, BL2.out⟩


set_option maxRecDepth 100000 in
set_option maxHeartbeats 3200000 in
theorem cprove_bad (a : Option Addr) (n cap : Nat) (zs : List Int) (p inc : Int) (hp : In64 p) (hi : In64 inc) (hb : okC zs p inc = false) (w : World) (h : RowZ w a n cap zs) :
    Calls Try.prog 21 #[curV a n cap p inc] w (Says (.tuple #[parts0, .int .i64 1]) w) := by
  have HV := Lib.hid hb
  obtain ⟨W, hW⟩ : ∃ W, (w.alloc (.cells #[.slice a n cap, .int .i64 p, .int .i64 inc] 24)).alloc (.cells #[.slice none 0 0, .int .i64 0, .int .i64 0, .int .i64 0, .slice none 0 0] 36) = W := ⟨_, rfl⟩
  have hB : Below w.heap.size w W := by rw [← hW]; exact ((Below.refl _ _).alloc (Nat.le_refl _) _).alloc (by simp) _
  have FB := Lib.hid (show Cur3 W w.heap.size (.slice a n cap) (.int .i64 p) (.int .i64 inc) from by rw [← hW]; exact (Cur3.new w _ _ _ _).alloc _)
  have RB := Lib.hid (show P5 W (w.heap.size + 1) (.slice none 0 0) (.int .i64 0) (.int .i64 0) (.int .i64 0) (.slice none 0 0) from by
    rw [← hW]
    have := p5_new (w.alloc (.cells #[.slice a n cap, .int .i64 p, .int .i64 inc] 24)) (.slice none 0 0) (.int .i64 0) (.int .i64 0) (.int .i64 0) (.slice none 0 0) 36
    rwa [show (w.alloc (.cells #[.slice a n cap, .int .i64 p, .int .i64 inc] 24)).heap.size = w.heap.size + 1 by simp] at this)
  have RW := Lib.hid (h.under hB)
  have HBL := Lib.hid hB
  have HW := Lib.hid hW
  obtain ⟨c0, c1, c2, f0, f1, f2⟩ := FB.out
  clear h hb hB hW
  go_enter Try.func21, Try.ntmps21
  go_wp2_with fail
  try rw [HW.out]
  refine (normal_bad a n cap zs p inc hp hi HV.out _ RW.out).mono ?_
  rintro e w1 ⟨rfl, hb⟩
  have hsz : w.heap.size + 1 < W.heap.size := RB.out.lt
  have LS := Lib.hid (below_set5 (b := w.heap.size + 1) (below_set3 (b := w.heap.size) (HBL.out.trans (hb.mono HBL.out.size)) (Nat.le_refl _) (.slice none 0 0) (.int .i64 0) (.int .i64 0)) (by omega) (.slice none 0 0) (.int .i64 0) (.int .i64 0) (.int .i64 0) (.slice none 0 0))
  clear c0 c1 c2 f0 f1 f2 hsz
  obtain ⟨c0, c1, c2, f0, f1, f2⟩ := FB.out.below hb
  obtain ⟨⟨r0, r1, r2, s0, s1, s2⟩, r3, r4, s3, s4⟩ := RB.out.below hb
  clear hb
  go_wp2_with fail
  exact bodyPost_ret (v := .tuple #[parts0, .int .i64 1]) (by simp [results, Try.results21, go_sem, r0, r1, r2, r3, r4]) rfl ⟨rfl, LS.out⟩

set_option maxRecDepth 100000 in
set_option maxHeartbeats 3200000 in
theorem clof_bad (a : Option Addr) (n cap : Nat) (zs : List Int) (p inc : Int) (hp : In64 p) (hi : In64 inc) (hb : okC zs p inc = false) (w : World) (h : RowZ w a n cap zs) :
    Calls Try.prog 19 #[curV a n cap p inc] w (Says (.tuple #[curV none 0 0 0 0, .int .i64 1]) w) := by
  have HV := Lib.hid hb
  obtain ⟨W, hW⟩ : ∃ W, (w.alloc (.cells #[.slice a n cap, .int .i64 p, .int .i64 inc] 24)).alloc (.cells #[.slice none 0 0, .int .i64 0, .int .i64 0] 24) = W := ⟨_, rfl⟩
  have hB : Below w.heap.size w W := by rw [← hW]; exact ((Below.refl _ _).alloc (Nat.le_refl _) _).alloc (by simp) _
  have FB := Lib.hid (show Cur3 W w.heap.size (.slice a n cap) (.int .i64 p) (.int .i64 inc) from by rw [← hW]; exact (Cur3.new w _ _ _ _).alloc _)
  have RB := Lib.hid (show Cur3 W (w.heap.size + 1) (.slice none 0 0) (.int .i64 0) (.int .i64 0) from by rw [← hW]; exact Cur3.new2 w _ _ _ _ _)
  have RW := Lib.hid (h.under hB)
  have HBL := Lib.hid hB
  have HW := Lib.hid hW
  obtain ⟨c0, c1, c2, f0, f1, f2⟩ := FB.out
  clear h hb hB hW
  go_enter Try.func19, Try.ntmps19
  go_wp2_with fail
  try rw [HW.out]
  refine (cprove_bad a n cap zs p inc hp hi HV.out _ RW.out).mono ?_
  rintro e w3 ⟨rfl, hb⟩
  obtain ⟨W4, hW4⟩ : ∃ W', w3.alloc (.cells #[.slice none 0 0, .int .i64 0, .int .i64 0, .int .i64 0, .slice none 0 0] 36) = W' := ⟨_, rfl⟩
  have hbx := qbox_below w3 (.cells #[.slice none 0 0, .int .i64 0, .int .i64 0, .int .i64 0, .slice none 0 0] 36)
  have hb4 : Below W.heap.size W W4 := by rw [← hW4]; exact hb.trans (hbx.mono hb.size)
  have R4 := Lib.hid (RB.out.below hb4)
  have LS := Lib.hid (below_set3 (b := w.heap.size + 1) (HBL.out.trans (hb4.mono HBL.out.size)) (by omega) (.slice none 0 0) (.int .i64 0) (.int .i64 0))
  have PB := Lib.hid (show P5 W4 w3.heap.size (.slice none 0 0) (.int .i64 0) (.int .i64 0) (.int .i64 0) (.slice none 0 0) from by rw [← hW4]; exact p5_new w3 _ _ _ _ _ _)
  have HW4 := Lib.hid hW4
  clear hb hbx hW4 hb4 c0 c1 c2 f0 f1 f2
  go_upto_region 2 with fail
  try rw [HW4.out]
  obtain ⟨⟨c0, c1, c2, f0, f1, f2⟩, c3, c4, f3, f4⟩ := PB.out
  obtain ⟨d0, d1, d2, g0, g1, g2⟩ := R4.out
  go_wp2_with fail
  exact bodyPost_ret (v := .tuple #[curV none 0 0 0 0, .int .i64 1]) (by simp [results, Try.results19, go_sem, d0, d1, d2]) rfl ⟨rfl, LS.out⟩

/-- What is told of a result whose error is c. -/
def CY (ys : List Int) (q : Nat) (jnc : Int) (zs : List Int) (p inc c : Int) : Prop :=
  (c = 0 ∧ ∃ r : Nat, p = r ∧ EForm zs r inc (eClo ys q jnc)) ∨ (c = 3 ∧ zs = [] ∧ p = 0 ∧ inc = 0 ∧ ¬ CloCan ys q jnc)
theorem GivesCof.y {ys : List Int} {q : Nat} {jnc : Int} {w w' : World} {e : Ending} (h : GivesCof ys q jnc w e w') : ∃ (a : Option Addr) (n cap : Nat) (zs : List Int) (p inc c : Int), e = .returned (.tuple #[curV a n cap p inc, .int .i64 c]) ∧ Below w.heap.size w w' ∧ RowZ w' a n cap zs ∧ CY ys q jnc zs p inc c ∧ ∀ x, a = some x → w.heap.size ≤ x.block := by
  obtain ⟨hb, ⟨a, n, cap, hs, r, knc, he, hr, hf, _, _, hx⟩ | ⟨he, hno⟩⟩ := h
  · exact ⟨a, n, cap, hs, r, knc, 0, he, hb, hr, .inl ⟨rfl, r, rfl, hf⟩, hx⟩
  · exact ⟨none, 0, 0, [], 0, 0, 3, he, hb, ⟨rfl, Nat.le_refl _, Nat.zero_le _, by omega, fun i hi => absurd hi (Nat.not_lt_zero _), fun i hi => absurd hi (Nat.not_lt_zero _)⟩, .inr ⟨rfl, rfl, rfl, rfl, hno⟩, fun x hx => by cases hx⟩
/-- The closure of a curve and that of its normal form. -/
theorem clo_norm {zs ys : List Int} {p q : Nat} {inc jnc : Int} (g : Good zs p inc) (hn : NormC zs p inc ys q jnc) : eClo ys q jnc = oclo (eC zs p inc) := by
  unfold eClo; rw [funext (hn.eform g).2.1]

end Go.Proofs.Ytcpfphlijeajiaa

namespace Go.Proofs.Ytcpfphlijeajiaa
set_option linter.unusedSimpArgs false
set_option linter.unusedVariables false

theorem c1_good : Good [0, 4, 4] 1 5 := (okC_iff _ _ _).1 (by decide)
theorem d1_good : Good [0, 4] 2 4 := (okC_iff _ _ _).1 (by decide)
theorem c2_good : Good [0, 10, 12, 14] 1 9 := (okC_iff _ _ _).1 (by decide)
theorem d2_good : Good [0, 10, 12, 14, 23] 3 14 := (okC_iff _ _ _).1 (by decide)
theorem c3_good : Good [0] 1 3 := (okC_iff _ _ _).1 (by decide)

/-- Two finite curves, one of which grows faster, compared. -/
theorem le_per {zs ys : List Int} {p q : Nat} {inc jnc : Int} (g : Good zs p inc) (k : Good ys q jnc) (f1 : ¬ InfC zs) (f2 : ¬ InfC ys) {L s : Nat} {ca cb : Int} (h1 : Per (atC zs p inc) s L ca) (h2 : Per (atC ys q jnc) s L cb) (hc : ca ≤ cb) (hL : 1 ≤ L) (h : ∀ t, t < s + L → atC zs p inc t ≤ atC ys q jnc t) (t : Nat) : ole (eC zs p inc t) (eC ys q jnc t) := by
  rw [eC_fin f1, eC_fin f2]
  refine ole_some ?_
  induction t using Nat.strongRecOn with
  | ind t ih =>
    by_cases ht : t < s + L
    · exact h t ht
    · have e1 := h1 (t - L) (by omega)
      have e2 := h2 (t - L) (by omega)
      rw [show t - L + L = t by omega] at e1 e2
      have := ih (t - L) (by omega)
      omega
theorem sub_iff0 {zs : List Int} {p : Nat} {inc : Int} (g : Good zs p inc) (h : ∀ s, s < zs.length → ∀ u, u ≤ s → atC zs p inc (s + u) ≤ plI (atC zs p inc s) (atC zs p inc u)) : SubA (eC zs p inc) := (sub_iff g).1 h
theorem c1_clo : eC [0, 4] 2 4 = eClo [0, 4, 4] 1 5 := by
  have f0 : ¬ InfC [0, 4] := by unfold InfC; decide
  have f1 : ¬ InfC [0, 4, 4] := by unfold InfC; decide
  have hL : comL 1 [0, 4] 2 = 2 := by rw [comL_fin f0]; decide
  refine cert_clo (fr := 5) c1_good d1_good (by rw [eC_fin f0]; rfl) ?_ ?_ (by rw [hL]; decide) fun t t1 t2 => ?_
  · exact le_per d1_good c1_good f0 f1 (L := 2) (s := 2) ((d1_good.per f0).mono (by decide)) (((c1_good.per f1).mul 2).mono (by decide)) (by decide) (by decide) (fun t ht => by
      have : t = 0 ∨ t = 1 ∨ t = 2 ∨ t = 3 := by omega
      rcases this with rfl | rfl | rfl | rfl <;> decide)
  · refine sub_iff0 d1_good fun s hs u hu => ?_
    have : (s = 0 ∧ u = 0) ∨ (s = 1 ∧ u = 0) ∨ (s = 1 ∧ u = 1) := by simp at hs; omega
    rcases this with ⟨rfl, rfl⟩ | ⟨rfl, rfl⟩ | ⟨rfl, rfl⟩ <;> decide
  · rw [hL] at t2
    have : t = 1 ∨ t = 2 ∨ t = 3 ∨ t = 4 ∨ t = 5 ∨ t = 6 := by omega
    rcases this with rfl | rfl | rfl | rfl | rfl | rfl
    · exact ⟨0, .inl ⟨rfl, by decide, .inl (by omega)⟩⟩
    · exact ⟨0, .inl ⟨rfl, by decide, .inl (by omega)⟩⟩
    · exact ⟨1, .inr ⟨by omega, by omega, by decide, .inl (by omega)⟩⟩
    · exact ⟨2, .inr ⟨by omega, by omega, by decide, .inl (by omega)⟩⟩
    · exact ⟨1, .inr ⟨by omega, by omega, by decide, .inr (by decide)⟩⟩
    · exact ⟨2, .inr ⟨by omega, by omega, by decide, .inr (by decide)⟩⟩
theorem c2_clo : eC [0, 10, 12, 14, 23] 3 14 = eClo [0, 10, 12, 14] 1 9 := by
  have f1 : ¬ InfC [0, 10, 12, 14, 23] := by unfold InfC; decide
  have f2 : ¬ InfC [0, 10, 12, 14] := by unfold InfC; decide
  have hL : comL 1 [0, 10, 12, 14, 23] 3 = 3 := by rw [comL_fin f1]; decide
  refine cert_clo (fr := 8) c2_good d2_good (by rw [eC_fin f1]; rfl) ?_ ?_ (by rw [hL]; decide) fun t t1 t2 => ?_
  · exact le_per d2_good c2_good f1 f2 (L := 3) (s := 3) ((d2_good.per f1).mono (by decide)) (((c2_good.per f2).mul 3).mono (by decide)) (by decide) (by decide) (fun t ht => by
      have : t = 0 ∨ t = 1 ∨ t = 2 ∨ t = 3 ∨ t = 4 ∨ t = 5 := by omega
      rcases this with rfl | rfl | rfl | rfl | rfl | rfl <;> decide)
  · refine sub_iff0 d2_good fun s hs u hu => ?_
    have h1 : s = 0 ∨ s = 1 ∨ s = 2 ∨ s = 3 ∨ s = 4 := by simp at hs; omega
    have h2 : u = 0 ∨ u = 1 ∨ u = 2 ∨ u = 3 ∨ u = 4 := by simp at hs; omega
    rcases h1 with rfl | rfl | rfl | rfl | rfl <;> rcases h2 with rfl | rfl | rfl | rfl | rfl <;> decide
  · rw [hL] at t2
    have : t = 1 ∨ t = 2 ∨ t = 3 ∨ t = 4 ∨ t = 5 ∨ t = 6 ∨ t = 7 ∨ t = 8 ∨ t = 9 ∨ t = 10 := by omega
    rcases this with rfl | rfl | rfl | rfl | rfl | rfl | rfl | rfl | rfl | rfl
    · exact ⟨0, .inl ⟨rfl, by decide, .inl (by omega)⟩⟩
    · exact ⟨0, .inl ⟨rfl, by decide, .inl (by omega)⟩⟩
    · exact ⟨0, .inl ⟨rfl, by decide, .inl (by omega)⟩⟩
    · exact ⟨0, .inl ⟨rfl, by decide, .inl (by omega)⟩⟩
    · exact ⟨2, .inr ⟨by omega, by omega, by decide, .inl (by omega)⟩⟩
    · exact ⟨3, .inr ⟨by omega, by omega, by decide, .inl (by omega)⟩⟩
    · exact ⟨3, .inr ⟨by omega, by omega, by decide, .inl (by omega)⟩⟩
    · exact ⟨3, .inr ⟨by omega, by omega, by decide, .inr (by decide)⟩⟩
    · exact ⟨3, .inr ⟨by omega, by omega, by decide, .inr (by decide)⟩⟩
    · exact ⟨3, .inr ⟨by omega, by omega, by decide, .inr (by decide)⟩⟩
theorem c3_sub : SubA (eC [0] 1 3) := sub_iff0 c3_good fun s hs u hu => by
  obtain rfl : s = 0 := by simp at hs; omega
  obtain rfl : u = 0 := by omega
  decide
theorem c1_form : EForm [0, 4, 4] 1 5 (eC [0, 4, 4] 1 5) := ⟨c1_good, fun _ => rfl, 2, rfl, ⟨c1_good.per (by decide), by omega, fun q h1 h2 => by omega, .inr (by decide)⟩⟩
theorem c2_form : EForm [0, 10, 12, 14] 1 9 (eC [0, 10, 12, 14] 1 9) := ⟨c2_good, fun _ => rfl, 3, rfl, ⟨c2_good.per (by decide), by omega, fun q h1 h2 => by omega, .inr (by decide)⟩⟩
theorem d1_form : EForm [0, 4] 2 4 (eClo [0, 4, 4] 1 5) := ⟨d1_good, fun t => by rw [c1_clo], 0, rfl, ⟨d1_good.per (by decide), by omega, fun q h1 h2 s' c' hp => by
    obtain rfl : q = 1 := by omega
    have h := (d1_good.per (by decide)).any (by omega) hp
    have a := h 0 (Nat.zero_le _)
    have b := h 1 (Nat.zero_le _)
    have e0 : atC [0, 4] 2 4 0 = 0 := by decide
    have e1 : atC [0, 4] 2 4 1 = 4 := by decide
    have e2 : atC [0, 4] 2 4 2 = 4 := by decide
    rw [show 0 + 1 = 1 from rfl, e0, e1] at a
    rw [show 1 + 1 = 2 from rfl, e1, e2] at b
    omega, .inl rfl⟩⟩
theorem d2_form : EForm [0, 10, 12, 14, 23] 3 14 (eClo [0, 10, 12, 14] 1 9) := ⟨d2_good, fun t => by rw [c2_clo], 2, rfl, ⟨d2_good.per (by decide), by omega, fun q h1 h2 s' c' hp => by
    have h := (d2_good.per (by decide)).any (by omega) hp
    have e2 : atC [0, 10, 12, 14, 23] 3 14 2 = 12 := by decide
    have e3 : atC [0, 10, 12, 14, 23] 3 14 3 = 14 := by decide
    have e4 : atC [0, 10, 12, 14, 23] 3 14 4 = 23 := by decide
    have e5 : atC [0, 10, 12, 14, 23] 3 14 5 = 26 := by decide
    have hq : q = 1 ∨ q = 2 := by omega
    rcases hq with rfl | rfl
    · have a := h 2 (by decide)
      have b := h 3 (by decide)
      rw [show 2 + 1 = 3 from rfl, e2, e3] at a
      rw [show 3 + 1 = 4 from rfl, e3, e4] at b
      omega
    · have a := h 2 (by decide)
      have b := h 3 (by decide)
      rw [show 2 + 2 = 4 from rfl, e2, e4] at a
      rw [show 3 + 2 = 5 from rfl, e3, e5] at b
      omega, .inr (by decide)⟩⟩
theorem c1_can : CloCan [0, 4, 4] 1 5 := ⟨by decide, [0, 4], 2, 4, d1_form, by rw [comL_fin (by unfold InfC; decide)]; decide⟩
theorem c2_can : CloCan [0, 10, 12, 14] 1 9 := ⟨by decide, [0, 10, 12, 14, 23], 3, 14, d2_form, by rw [comL_fin (by unfold InfC; decide)]; decide⟩
end Go.Proofs.Ytcpfphlijeajiaa

namespace Go.Proofs.Ytcpfphlijeajiaa
open Go.RowKit
set_option linter.unusedSimpArgs false
set_option linter.unusedVariables false

set_option maxRecDepth 100000 in
set_option maxHeartbeats 3200000 in
theorem awake9 (w : World) : Calls Try.prog 14 #[] w (Says (.bool true) w) := by
  have N1 := Lib.hid (show NormC [0, 4, 4] 1 5 [0, 4, 4] 1 5 from by obtain ⟨_, _, h⟩ := norm_self c1_form; exact h)
  have N2 := Lib.hid (show NormC [0, 10, 12, 14] 1 9 [0, 10, 12, 14] 1 9 from by obtain ⟨_, _, h⟩ := norm_self c2_form; exact h)
  obtain ⟨w0, hw0⟩ : ∃ W, w.alloc (.cells #[.int .i64 0, .int .i64 4, .int .i64 4] 3) = W := ⟨_, rfl⟩
  have R0 := Lib.hid (show RowZ w0 (some ⟨w.heap.size, 0, none⟩) 3 3 [0, 4, 4] by rw [← hw0]; exact rowZ_lit w [0, 4, 4] 3 (by decide) (by decide))
  have HB0 := Lib.hid (show Below w.heap.size w w0 by rw [← hw0]; exact below_box _)
  have HW0 := Lib.hid hw0
  clear hw0
  go_enter Try.func14, Try.ntmps14
  go_wp2_with fail
  try rw [HW0.out]
  refine (clof_any (some ⟨w.heap.size, 0, none⟩) 3 3 [0, 4, 4] 1 5 c1_good N1.out _ R0.out).mono ?_
  rintro e v1 ⟨hb, ⟨a1, n1, cap1, z1, p1, i1, rfl, hr, hf, _, _, hx⟩ | ⟨_, hno⟩⟩
  rotate_left
  · exact absurd c1_can hno
  obtain ⟨w1, hw⟩ : ∃ W, v1.alloc (.cells #[.slice a1 n1 cap1, .int .i64 p1, .int .i64 i1] 24) = W := ⟨_, rfl⟩
  have hz : Below w0.heap.size w0 w1 := by rw [← hw]; exact hb.trans ((below_box _).mono hb.size)
  have X1 := Lib.hid (show Bx w1 v1.heap.size a1 n1 cap1 p1 i1 z1 by rw [← hw]; exact Bx.new hr)
  have HB1 := Lib.hid (HB0.out.trans (hz.mono HB0.out.size))
  have HF1 := Lib.hid (And.intro hf.1 (hf.unique d1_form))
  have HW1 := Lib.hid hw
  clear hb hr hf hx hz hw HB0 HW0 R0
  obtain ⟨w2, hw2⟩ : ∃ W, w1.alloc (.cells #[.int .i64 0, .int .i64 10, .int .i64 12, .int .i64 14] 3) = W := ⟨_, rfl⟩
  have R2 := Lib.hid (show RowZ w2 (some ⟨w1.heap.size, 0, none⟩) 4 4 [0, 10, 12, 14] by rw [← hw2]; exact rowZ_lit w1 [0, 10, 12, 14] 3 (by decide) (by decide))
  have hz2 : Below w1.heap.size w1 w2 := by rw [← hw2]; exact below_box _
  have X2 := Lib.hid (X1.out.under hz2)
  have HB2 := Lib.hid (HB1.out.trans (hz2.mono HB1.out.size))
  have HW2 := Lib.hid hw2
  clear hw2 hz2 X1 HB1
  go_upto_region 2 with fail
  try rw [HW1.out]
  go_wp2_with fail
  try rw [HW2.out]
  refine (cprove_any (some ⟨w1.heap.size, 0, none⟩) 4 4 [0, 10, 12, 14] 1 9 c2_good N2.out _ R2.out).mono ?_
  rintro e v3 ⟨hb, ⟨a2, n2, cap2, z2, p2, i2, at1, m, mc, ts, rfl, hr, hr2, hc, hx, hx2⟩ | ⟨_, hno⟩⟩
  rotate_left
  · exact absurd c2_can hno
  obtain ⟨fr, hfr⟩ : ∃ k, horC [0, 10, 12, 14] 1 z2 p2 (comL 1 z2 p2) = k := ⟨_, rfl⟩
  rw [hfr]
  obtain ⟨w3, hw⟩ : ∃ W, v3.alloc (.cells #[.slice a2 n2 cap2, .int .i64 p2, .int .i64 i2, .int .i64 fr, .slice at1 m mc] 36) = W := ⟨_, rfl⟩
  have hz3 : Below v3.heap.size v3 w3 := by rw [← hw]; exact below_box _
  have hz : Below w2.heap.size w2 w3 := hb.trans (hz3.mono hb.size)
  have X3 := Lib.hid (X2.out.under hz)
  have HB3 := Lib.hid (HB2.out.trans (hz.mono HB2.out.size))
  have XC := Lib.hid (show P5 w3 v3.heap.size (.slice a2 n2 cap2) (.int .i64 p2) (.int .i64 i2) (.int .i64 fr) (.slice at1 m mc) by rw [← hw]; exact p5_new v3 _ _ _ _ _ _)
  have RC := Lib.hid (hr.under hz3)
  have HF2 := Lib.hid (And.intro hc.form.1 (hc.form.unique d2_form))
  have HW3 := Lib.hid hw
  clear hb hr hr2 hc hx hx2 hz hz3 hw hfr X2 HB2 HW1 HW2 R2
  go_upto_region 3 with fail
  try rw [HW3.out]
  obtain ⟨⟨c0, c1, c2, f0, f1, f2⟩, c3, c4, f3, f4⟩ := XC.out
  go_wp2_with fail
  refine (value_at a2 n2 cap2 z2 p2 i2 HF2.out.1 9 9 rfl (by omega) 42 (by obtain ⟨_, rfl, rfl, rfl⟩ := HF2.out; decide) _ RC.out).mono ?_
  rintro e w4 ⟨rfl, hb⟩
  have X4 := Lib.hid (X3.out.under hb)
  have HB4 := Lib.hid (HB3.out.trans (hb.mono HB3.out.size))
  clear hb c0 c1 c2 f0 f1 f2 c3 c4 f3 f4 X3 HB3 HW3 XC RC
  obtain ⟨w5, hw5⟩ : ∃ W, w4.alloc (.cells #[.int .i64 0] 3) = W := ⟨_, rfl⟩
  have R5 := Lib.hid (show RowZ w5 (some ⟨w4.heap.size, 0, none⟩) 1 1 [0] by rw [← hw5]; exact rowZ_lit w4 [0] 3 (by decide) (by decide))
  have hz5 : Below w4.heap.size w4 w5 := by rw [← hw5]; exact below_box _
  have X5 := Lib.hid (X4.out.under hz5)
  have HB5 := Lib.hid (HB4.out.trans (hz5.mono HB4.out.size))
  have HW5 := Lib.hid hw5
  clear hw5 hz5 X4 HB4
  go_wp2_with fail
  try rw [HW5.out]
  refine (csub_ok (some ⟨w4.heap.size, 0, none⟩) 1 1 [0] 1 3 c3_good true ⟨fun _ => c3_sub, fun _ => rfl⟩ _ R5.out).mono ?_
  rintro e w6 ⟨rfl, hb⟩
  have X6 := Lib.hid (X5.out.under hb)
  have HB6 := Lib.hid (HB5.out.trans (hb.mono HB5.out.size))
  clear hb X5 HB5 HW5 R5
  obtain ⟨c0, c1, c2, c3, c4, c5⟩ := X6.out.box
  go_wp2_with fail
  have I1 := HF1.out.1
  refine (rvalid_any a1 n1 cap1 z1 p1 i1 ⟨by omega, by have := I1.p2; omega⟩ ⟨by have := I1.i0; omega, by have := I1.i1; omega⟩ true ((okC_iff z1 p1 i1).2 I1) _ X6.out.row).mono ?_
  rintro e w7 ⟨rfl, hb⟩
  have X7 := Lib.hid (X6.out.under hb)
  have HB7 := Lib.hid (HB6.out.trans (hb.mono HB6.out.size))
  clear hb c0 c1 c2 c3 c4 c5 X6 HB6 I1
  obtain ⟨c0, c1, c2, c3, c4, c5⟩ := X7.out.box
  go_wp2_with fail
  refine (rat_at a1 n1 cap1 z1 p1 i1 HF1.out.1 2 2 rfl (by omega) 4 (by obtain ⟨_, rfl, rfl, rfl⟩ := HF1.out; decide) _ X7.out.row).mono ?_
  rintro e w8 ⟨rfl, hb⟩
  have X8 := Lib.hid (X7.out.under hb)
  have HB8 := Lib.hid (HB7.out.trans (hb.mono HB7.out.size))
  clear hb c0 c1 c2 c3 c4 c5 X7 HB7
  obtain ⟨c0, c1, c2, c3, c4, c5⟩ := X8.out.box
  go_wp2_with fail
  refine (rat_at a1 n1 cap1 z1 p1 i1 HF1.out.1 3 3 rfl (by omega) 8 (by obtain ⟨_, rfl, rfl, rfl⟩ := HF1.out; decide) _ X8.out.row).mono ?_
  rintro e w9 ⟨rfl, hb⟩
  have X9 := Lib.hid (X8.out.under hb)
  have HB9 := Lib.hid (HB8.out.trans (hb.mono HB8.out.size))
  clear hb c0 c1 c2 c3 c4 c5 X8 HB8
  obtain ⟨c0, c1, c2, c3, c4, c5⟩ := X9.out.box
  go_wp2_with fail
  refine (rat_at a1 n1 cap1 z1 p1 i1 HF1.out.1 5 5 rfl (by omega) 12 (by obtain ⟨_, rfl, rfl, rfl⟩ := HF1.out; decide) _ X9.out.row).mono ?_
  rintro e w10 ⟨rfl, hb⟩
  have HB10 := Lib.hid (HB9.out.trans (hb.mono HB9.out.size))
  clear hb
  go_wp2_with fail
  go_ret
  exact ⟨rfl, HB10.out⟩
end Go.Proofs.Ytcpfphlijeajiaa
