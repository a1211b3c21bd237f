/- Of and Subadditive of the closure. By the verifier's side. -/
import Derived.Test.YtjjaaknjdmijbaaQdCloE
import Derived.Test.YtjjaaknjdmijbaaQdCurSToCurveNormalW
import Derived.Test.YtjjaaknjdmijbaaQdRefP
namespace Go.Proofs.Ytjjaaknjdmijbaa
open Go.RowKit
set_option linter.unusedSimpArgs false
set_option linter.unusedVariables false

/-- What Of hands back. -/
def GivesCof (ys : List Int) (q : Nat) (jnc : Int) (w : World) (e : Ending) (w' : World) : Prop :=
  Below w.heap.size w w' ∧ ((∃ (a : Option Addr) (n cap : Nat) (hs : List Int) (r : Nat) (knc : Int),
    e = .returned (.tuple #[curV a n cap r knc, .int .i64 0]) ∧ RowZ w' a n cap hs ∧ EForm hs r knc (eClo ys q jnc) ∧ ys.length ≤ 60 ∧ comL q hs r ≤ 120 ∧ ∀ x, a = some x → w.heap.size ≤ x.block) ∨
    (e = .returned (.tuple #[curV none 0 0 0 0, .int .i64 3]) ∧ ¬ CloCan ys q jnc))
theorem GivesCof.post {ys : List Int} {q : Nat} {jnc : Int} {w w1 w2 : World} {b : Nat} {a : Option Addr} {n cap : Nat} {hs : List Int} {r : Nat} {knc : Int} (hB : Below w.heap.size w w1) (hb1 : w.heap.size ≤ b) (hb2 : b < w1.heap.size) (h2 : Below w1.heap.size w1 w2) (hr : RowZ w2 a n cap hs) (hx : ∀ x, a = some x → w1.heap.size ≤ x.block) (hf : EForm hs r knc (eClo ys q jnc)) (h60 : ys.length ≤ 60) (hL : comL q hs r ≤ 120) :
    GivesCof ys q jnc w (.returned (.tuple #[curV a n cap r knc, .int .i64 0])) (((w2.setCell ⟨b, 0, none⟩ (.slice a n cap)).setCell ⟨b, 1, none⟩ (.int .i64 r)).setCell ⟨b, 2, none⟩ (.int .i64 knc)) := by
  have hne : ∀ x : Addr, a = some x → 1 ≤ n → x.block ≠ b := fun x h _ => by have := hx x h; omega
  exact ⟨below_set3 (hB.trans (h2.mono hB.size)) hb1 _ _ _, .inl ⟨a, n, cap, hs, r, knc, rfl, ((hr.store hne _ _).store hne _ _).store hne _ _, hf, h60, hL, fun x h => by have := hx x h; have := hB.size; omega⟩⟩

/-- The curve's box and the result's. -/
structure OF (w : World) (a : Option Addr) (n cap : Nat) (zs : List Int) (p : Nat) (inc : Int) (u : World) : Prop where
  fb : Cur3 u w.heap.size (.slice a n cap) (.int .i64 p) (.int .i64 inc)
  res : Cur3 u (w.heap.size + 1) (.slice none 0 0) (.int .i64 0) (.int .i64 0)
  row : RowZ u a n cap zs
  below : Below w.heap.size w u
  sz : w.heap.size + 1 < u.heap.size
theorem OF.call {w u v : World} {a : Option Addr} {n cap : Nat} {zs : List Int} {p : Nat} {inc : Int} (h : OF w a n cap zs p inc u) (hb : Below u.heap.size u v) : OF w a n cap zs p inc v :=
  ⟨h.fb.below hb, h.res.below hb, h.row.under hb, h.below.trans (hb.mono h.below.size), Nat.lt_of_lt_of_le h.sz hb.size⟩

set_option maxRecDepth 100000 in
set_option maxHeartbeats 3200000 in
theorem clof_any (a : Option Addr) (n cap : Nat) (zs : List Int) (p : Nat) (inc : Int) (g : Good zs p inc) {ys : List Int} {q : Nat} {jnc : Int} (hn : NormC zs p inc ys q jnc) (w : World) (h : RowZ w a n cap zs) :
    Calls Try.prog 42 #[curV a n cap p inc] w (GivesCof ys q jnc w) := by
  have G0 := Lib.hid g
  have HN := Lib.hid hn
  obtain ⟨W, hW⟩ : ∃ W, (w.alloc (.cells #[.slice a n cap, .int .i64 p, .int .i64 inc] 24)).alloc (.cells #[.slice none 0 0, .int .i64 0, .int .i64 0] 24) = W := ⟨_, rfl⟩
  have hB : Below w.heap.size w W := by rw [← hW]; exact ((Below.refl _ _).alloc (Nat.le_refl _) _).alloc (by simp) _
  have T0 := Lib.hid (show OF w a n cap zs p inc W from ⟨by rw [← hW]; exact (Cur3.new w _ _ _ _).alloc _, by rw [← hW]; exact Cur3.new2 w _ _ _ _ _, h.under hB, hB, by rw [← hW]; simp⟩)
  have HW := Lib.hid hW
  obtain ⟨c0, c1, c2, f0, f1, f2⟩ := T0.out.fb
  clear g hn h hB hW
  go_enter Try.func42, Try.ntmps42
  go_wp2_with fail
  try rw [HW.out]
  refine (cprove_any a n cap zs p inc G0.out HN.out _ T0.out.row).mono ?_
  rintro e w3 ⟨hb, ⟨a5, n5, cap5, hs, r, knc, at1, m, mc, ts, rfl, hr, hr2, hc, hx, hx2⟩ | ⟨rfl, hno⟩⟩
  · obtain ⟨fr, hfr⟩ : ∃ k, horC ys q hs r (comL q hs r) = k := ⟨_, rfl⟩
    rw [hfr]
    obtain ⟨W4, hW4⟩ : ∃ W', w3.alloc (.cells #[.slice a5 n5 cap5, .int .i64 r, .int .i64 knc, .int .i64 fr, .slice at1 m mc] 59) = W' := ⟨_, rfl⟩
    have hbx := qbox_below w3 (.cells #[.slice a5 n5 cap5, .int .i64 r, .int .i64 knc, .int .i64 fr, .slice at1 m mc] 59)
    have T4 := Lib.hid (show OF w a n cap zs p inc W4 from by rw [← hW4]; exact (T0.out.call hb).call hbx)
    have HQ := Lib.hid (show GivesCof ys q jnc w (.returned (.tuple #[curV a5 n5 cap5 r knc, .int .i64 0])) (((W4.setCell ⟨w.heap.size + 1, 0, none⟩ (.slice a5 n5 cap5)).setCell ⟨w.heap.size + 1, 1, none⟩ (.int .i64 r)).setCell ⟨w.heap.size + 1, 2, none⟩ (.int .i64 knc)) from by
      have hb4 : Below W.heap.size W W4 := by rw [← hW4]; exact hb.trans (hbx.mono hb.size)
      exact GivesCof.post T0.out.below (by omega) T0.out.sz hb4 (by rw [← hW4]; exact hr.under hbx) hx hc.form hc.few hc.l)
    have PB := Lib.hid (show P5 W4 w3.heap.size (.slice a5 n5 cap5) (.int .i64 r) (.int .i64 knc) (.int .i64 fr) (.slice at1 m mc) from by rw [← hW4]; exact p5_new w3 _ _ _ _ _ _)
    have HW4 := Lib.hid hW4
    clear hb hr hr2 hc hx hx2 hbx hW4 hfr c0 c1 c2 f0 f1 f2
    go_upto_region 2 with fail
    try rw [HW4.out]
    obtain ⟨⟨c0, c1, c2, f0, f1, f2⟩, c3, c4, f3, f4⟩ := PB.out
    obtain ⟨d0, d1, d2, g0, g1, g2⟩ := T4.out.res
    go_wp2_with fail
    exact bodyPost_ret (v := .tuple #[curV a5 n5 cap5 r knc, .int .i64 0]) (by simp [results, Try.results42, go_sem, d0, d1, d2]) rfl HQ.out
  · obtain ⟨W4, hW4⟩ : ∃ W', w3.alloc (.cells #[.slice none 0 0, .int .i64 0, .int .i64 0, .int .i64 0, .slice none 0 0] 59) = W' := ⟨_, rfl⟩
    have hbx := qbox_below w3 (.cells #[.slice none 0 0, .int .i64 0, .int .i64 0, .int .i64 0, .slice none 0 0] 59)
    have T4 := Lib.hid (show OF w a n cap zs p inc W4 from by rw [← hW4]; exact (T0.out.call hb).call hbx)
    have HQ := Lib.hid (show GivesCof ys q jnc w (.returned (.tuple #[curV none 0 0 0 0, .int .i64 3])) (((W4.setCell ⟨w.heap.size + 1, 0, none⟩ (.slice none 0 0)).setCell ⟨w.heap.size + 1, 1, none⟩ (.int .i64 0)).setCell ⟨w.heap.size + 1, 2, none⟩ (.int .i64 0)) from
      ⟨below_set3 T4.out.below (by omega) _ _ _, .inr ⟨rfl, hno⟩⟩)
    have PB := Lib.hid (show P5 W4 w3.heap.size (.slice none 0 0) (.int .i64 0) (.int .i64 0) (.int .i64 0) (.slice none 0 0) from by rw [← hW4]; exact p5_new w3 _ _ _ _ _ _)
    have HW4 := Lib.hid hW4
    clear hb hno hbx hW4 c0 c1 c2 f0 f1 f2
    go_upto_region 2 with fail
    try rw [HW4.out]
    obtain ⟨⟨c0, c1, c2, f0, f1, f2⟩, c3, c4, f3, f4⟩ := PB.out
    obtain ⟨d0, d1, d2, g0, g1, g2⟩ := T4.out.res
    go_wp2_with fail
    exact bodyPost_ret (v := .tuple #[curV none 0 0 0 0, .int .i64 3]) (by simp [results, Try.results42, go_sem, d0, d1, d2]) rfl HQ.out

set_option maxRecDepth 100000 in
set_option maxHeartbeats 3200000 in
theorem csub_ok (a : Option Addr) (n cap : Nat) (zs : List Int) (p : Nat) (inc : Int) (g : Good zs p inc) (b : Bool) (hb : b = true ↔ SubA (eC zs p inc)) (w : World) (h : RowZ w a n cap zs) :
    Calls Try.prog 46 #[curV a n cap p inc] w (Says (.tuple #[.bool b, .int .i64 0]) w) := by
  have G0 := Lib.hid g
  have HB := Lib.hid hb
  obtain ⟨W, hW⟩ : ∃ W, w.alloc (.cells #[.slice a n cap, .int .i64 p, .int .i64 inc] 24) = W := ⟨_, rfl⟩
  have hB : Below w.heap.size w W := by rw [← hW]; exact (Below.refl _ _).alloc (Nat.le_refl _) _
  have FB := Lib.hid (show Cur3 W w.heap.size (.slice a n cap) (.int .i64 p) (.int .i64 inc) from by rw [← hW]; exact Cur3.new w _ _ _ _)
  have RW := Lib.hid (h.under hB)
  have HBL := Lib.hid hB
  have HW := Lib.hid hW
  obtain ⟨c0, c1, c2, f0, f1, f2⟩ := FB.out
  clear g h hb hB hW
  go_enter Try.func46, Try.ntmps46
  go_upto_region 1 with fail
  try rw [HW.out]
  go_wp2_with fail
  refine (normal_ok a n cap zs p inc G0.out _ RW.out).mono ?_
  rintro e w1 ⟨a3, n3, cap3, x1, r1, k1, rfl, hb, hr, hnn, hx⟩
  have GX := Lib.hid (hnn.good G0.out)
  have HB2 := Lib.hid (show b = true ↔ SubA (eC x1 r1 k1) from by rw [funext (hnn.eform G0.out).2.1]; exact HB.out)
  obtain ⟨W1, hW1⟩ : ∃ W', (((w1.setCell ⟨w.heap.size, 0, none⟩ (.slice a3 n3 cap3)).setCell ⟨w.heap.size, 1, none⟩ (.int .i64 r1)).setCell ⟨w.heap.size, 2, none⟩ (.int .i64 k1)) = W' := ⟨_, rfl⟩
  have F1 := Lib.hid (show Cur3 W1 w.heap.size (.slice a3 n3 cap3) (.int .i64 r1) (.int .i64 k1) from by rw [← hW1]; exact (FB.out.below hb).set _ _ _)
  have R1 := Lib.hid (show RowZ W1 a3 n3 cap3 x1 from by
    have q : ∀ x, a3 = some x → 1 ≤ n3 → x.block ≠ w.heap.size := fun x h _ => by have := hx x h; have := FB.out.lt; omega
    rw [← hW1]; exact ((hr.store q _ _).store q _ _).store q _ _)
  have BL1 := Lib.hid (show Below w.heap.size w W1 from by rw [← hW1]; exact below_set3 (HBL.out.trans (hb.mono HBL.out.size)) (Nat.le_refl _) _ _ _)
  have HW1 := Lib.hid hW1
  clear c0 c1 c2 f0 f1 f2
  obtain ⟨c0, c1, c2, f0, f1, f2⟩ := FB.out.below hb
  clear hb hr hnn hx hW1
  go_upto_region 2 with fail
  try rw [HW1.out]
  clear c0 c1 c2 f0 f1 f2
  obtain ⟨c0, c1, c2, f0, f1, f2⟩ := F1.out
  go_wp2_with fail
  refine (subadd_any a3 n3 cap3 x1 r1 k1 GX.out b HB2.out _ R1.out).mono ?_
  rintro e w2 ⟨rfl, hb⟩
  have BL2 := Lib.hid (BL1.out.trans (hb.mono BL1.out.size))
  clear hb c0 c1 c2 f0 f1 f2
  go_wp2_with fail
  exact bodyPost_ret (v := .tuple #[.bool b, .int .i64 0]) (by simp [results, Try.results46, go_sem]) rfl ⟨rfl, BL2.out⟩


set_option maxRecDepth 100000 in
set_option maxHeartbeats 3200000 in
theorem cprove_bad (a : Option Addr) (n cap : Nat) (zs : List Int) (p inc : Int) (hp : In64 p) (hi : In64 inc) (hb : okC zs p inc = false) (w : World) (h : RowZ w a n cap zs) :
    Calls Try.prog 44 #[curV a n cap p inc] w (Says (.tuple #[parts0, .int .i64 1]) w) := by
  have HV := Lib.hid hb
  obtain ⟨W, hW⟩ : ∃ W, (w.alloc (.cells #[.slice a n cap, .int .i64 p, .int .i64 inc] 24)).alloc (.cells #[.slice none 0 0, .int .i64 0, .int .i64 0, .int .i64 0, .slice none 0 0] 59) = W := ⟨_, rfl⟩
  have hB : Below w.heap.size w W := by rw [← hW]; exact ((Below.refl _ _).alloc (Nat.le_refl _) _).alloc (by simp) _
  have FB := Lib.hid (show Cur3 W w.heap.size (.slice a n cap) (.int .i64 p) (.int .i64 inc) from by rw [← hW]; exact (Cur3.new w _ _ _ _).alloc _)
  have RB := Lib.hid (show P5 W (w.heap.size + 1) (.slice none 0 0) (.int .i64 0) (.int .i64 0) (.int .i64 0) (.slice none 0 0) from by
    rw [← hW]
    have := p5_new (w.alloc (.cells #[.slice a n cap, .int .i64 p, .int .i64 inc] 24)) (.slice none 0 0) (.int .i64 0) (.int .i64 0) (.int .i64 0) (.slice none 0 0) 59
    rwa [show (w.alloc (.cells #[.slice a n cap, .int .i64 p, .int .i64 inc] 24)).heap.size = w.heap.size + 1 by simp] at this)
  have RW := Lib.hid (h.under hB)
  have HBL := Lib.hid hB
  have HW := Lib.hid hW
  obtain ⟨c0, c1, c2, f0, f1, f2⟩ := FB.out
  clear h hb hB hW
  go_enter Try.func44, Try.ntmps44
  go_wp2_with fail
  try rw [HW.out]
  refine (normal_bad a n cap zs p inc hp hi HV.out _ RW.out).mono ?_
  rintro e w1 ⟨rfl, hb⟩
  have hsz : w.heap.size + 1 < W.heap.size := RB.out.lt
  have LS := Lib.hid (below_set5 (b := w.heap.size + 1) (below_set3 (b := w.heap.size) (HBL.out.trans (hb.mono HBL.out.size)) (Nat.le_refl _) (.slice none 0 0) (.int .i64 0) (.int .i64 0)) (by omega) (.slice none 0 0) (.int .i64 0) (.int .i64 0) (.int .i64 0) (.slice none 0 0))
  clear c0 c1 c2 f0 f1 f2 hsz
  obtain ⟨c0, c1, c2, f0, f1, f2⟩ := FB.out.below hb
  obtain ⟨⟨r0, r1, r2, s0, s1, s2⟩, r3, r4, s3, s4⟩ := RB.out.below hb
  clear hb
  go_wp2_with fail
  exact bodyPost_ret (v := .tuple #[parts0, .int .i64 1]) (by simp [results, Try.results44, go_sem, r0, r1, r2, r3, r4]) rfl ⟨rfl, LS.out⟩

set_option maxRecDepth 100000 in
set_option maxHeartbeats 3200000 in
theorem clof_bad (a : Option Addr) (n cap : Nat) (zs : List Int) (p inc : Int) (hp : In64 p) (hi : In64 inc) (hb : okC zs p inc = false) (w : World) (h : RowZ w a n cap zs) :
    Calls Try.prog 42 #[curV a n cap p inc] w (Says (.tuple #[curV none 0 0 0 0, .int .i64 1]) w) := by
  have HV := Lib.hid hb
  obtain ⟨W, hW⟩ : ∃ W, (w.alloc (.cells #[.slice a n cap, .int .i64 p, .int .i64 inc] 24)).alloc (.cells #[.slice none 0 0, .int .i64 0, .int .i64 0] 24) = W := ⟨_, rfl⟩
  have hB : Below w.heap.size w W := by rw [← hW]; exact ((Below.refl _ _).alloc (Nat.le_refl _) _).alloc (by simp) _
  have FB := Lib.hid (show Cur3 W w.heap.size (.slice a n cap) (.int .i64 p) (.int .i64 inc) from by rw [← hW]; exact (Cur3.new w _ _ _ _).alloc _)
  have RB := Lib.hid (show Cur3 W (w.heap.size + 1) (.slice none 0 0) (.int .i64 0) (.int .i64 0) from by rw [← hW]; exact Cur3.new2 w _ _ _ _ _)
  have RW := Lib.hid (h.under hB)
  have HBL := Lib.hid hB
  have HW := Lib.hid hW
  obtain ⟨c0, c1, c2, f0, f1, f2⟩ := FB.out
  clear h hb hB hW
  go_enter Try.func42, Try.ntmps42
  go_wp2_with fail
  try rw [HW.out]
  refine (cprove_bad a n cap zs p inc hp hi HV.out _ RW.out).mono ?_
  rintro e w3 ⟨rfl, hb⟩
  obtain ⟨W4, hW4⟩ : ∃ W', w3.alloc (.cells #[.slice none 0 0, .int .i64 0, .int .i64 0, .int .i64 0, .slice none 0 0] 59) = W' := ⟨_, rfl⟩
  have hbx := qbox_below w3 (.cells #[.slice none 0 0, .int .i64 0, .int .i64 0, .int .i64 0, .slice none 0 0] 59)
  have hb4 : Below W.heap.size W W4 := by rw [← hW4]; exact hb.trans (hbx.mono hb.size)
  have R4 := Lib.hid (RB.out.below hb4)
  have LS := Lib.hid (below_set3 (b := w.heap.size + 1) (HBL.out.trans (hb4.mono HBL.out.size)) (by omega) (.slice none 0 0) (.int .i64 0) (.int .i64 0))
  have PB := Lib.hid (show P5 W4 w3.heap.size (.slice none 0 0) (.int .i64 0) (.int .i64 0) (.int .i64 0) (.slice none 0 0) from by rw [← hW4]; exact p5_new w3 _ _ _ _ _ _)
  have HW4 := Lib.hid hW4
  clear hb hbx hW4 hb4 c0 c1 c2 f0 f1 f2
  go_upto_region 2 with fail
  try rw [HW4.out]
  obtain ⟨⟨c0, c1, c2, f0, f1, f2⟩, c3, c4, f3, f4⟩ := PB.out
  obtain ⟨d0, d1, d2, g0, g1, g2⟩ := R4.out
  go_wp2_with fail
  exact bodyPost_ret (v := .tuple #[curV none 0 0 0 0, .int .i64 1]) (by simp [results, Try.results42, go_sem, d0, d1, d2]) rfl ⟨rfl, LS.out⟩

set_option maxRecDepth 100000 in
set_option maxHeartbeats 3200000 in
theorem csub_bad (a : Option Addr) (n cap : Nat) (zs : List Int) (p inc : Int) (hp : In64 p) (hi : In64 inc) (hb : okC zs p inc = false) (w : World) (h : RowZ w a n cap zs) :
    Calls Try.prog 46 #[curV a n cap p inc] w (Says (.tuple #[.bool false, .int .i64 1]) w) := by
  have HV := Lib.hid hb
  obtain ⟨W, hW⟩ : ∃ W, w.alloc (.cells #[.slice a n cap, .int .i64 p, .int .i64 inc] 24) = W := ⟨_, rfl⟩
  have hB : Below w.heap.size w W := by rw [← hW]; exact (Below.refl _ _).alloc (Nat.le_refl _) _
  have FB := Lib.hid (show Cur3 W w.heap.size (.slice a n cap) (.int .i64 p) (.int .i64 inc) from by rw [← hW]; exact Cur3.new w _ _ _ _)
  have RW := Lib.hid (h.under hB)
  have HBL := Lib.hid hB
  have HW := Lib.hid hW
  obtain ⟨c0, c1, c2, f0, f1, f2⟩ := FB.out
  clear h hb hB hW
  go_enter Try.func46, Try.ntmps46
  go_upto_region 1 with fail
  try rw [HW.out]
  go_wp2_with fail
  refine (normal_bad a n cap zs p inc hp hi HV.out _ RW.out).mono ?_
  rintro e w1 ⟨rfl, hb⟩
  have LS := Lib.hid (below_set3 (b := w.heap.size) (HBL.out.trans (hb.mono HBL.out.size)) (Nat.le_refl _) (.slice none 0 0) (.int .i64 0) (.int .i64 0))
  clear c0 c1 c2 f0 f1 f2
  obtain ⟨c0, c1, c2, f0, f1, f2⟩ := FB.out.below hb
  clear hb
  go_wp2_with fail
  exact bodyPost_ret (v := .tuple #[.bool false, .int .i64 1]) (by simp [results, Try.results46, go_sem]) rfl ⟨rfl, LS.out⟩

/-- What is told of a result whose error is c. -/
def CY (ys : List Int) (q : Nat) (jnc : Int) (zs : List Int) (p inc c : Int) : Prop :=
  (c = 0 ∧ ∃ r : Nat, p = r ∧ EForm zs r inc (eClo ys q jnc)) ∨ (c = 3 ∧ zs = [] ∧ p = 0 ∧ inc = 0 ∧ ¬ CloCan ys q jnc)
theorem GivesCof.y {ys : List Int} {q : Nat} {jnc : Int} {w w' : World} {e : Ending} (h : GivesCof ys q jnc w e w') : ∃ (a : Option Addr) (n cap : Nat) (zs : List Int) (p inc c : Int), e = .returned (.tuple #[curV a n cap p inc, .int .i64 c]) ∧ Below w.heap.size w w' ∧ RowZ w' a n cap zs ∧ CY ys q jnc zs p inc c ∧ ∀ x, a = some x → w.heap.size ≤ x.block := by
  obtain ⟨hb, ⟨a, n, cap, hs, r, knc, he, hr, hf, _, _, hx⟩ | ⟨he, hno⟩⟩ := h
  · exact ⟨a, n, cap, hs, r, knc, 0, he, hb, hr, .inl ⟨rfl, r, rfl, hf⟩, hx⟩
  · exact ⟨none, 0, 0, [], 0, 0, 3, he, hb, ⟨rfl, Nat.le_refl _, Nat.zero_le _, by omega, fun i hi => absurd hi (Nat.not_lt_zero _), fun i hi => absurd hi (Nat.not_lt_zero _)⟩, .inr ⟨rfl, rfl, rfl, rfl, hno⟩, fun x hx => by cases hx⟩
end Go.Proofs.Ytjjaaknjdmijbaa

namespace Go.Proofs.Ytjjaaknjdmijbaa
open Go.RowKit
set_option linter.unusedSimpArgs false
set_option linter.unusedVariables false

/-- What a certificate must say, for a valid curve. -/
structure CheckIs (ys : List Int) (q : Nat) (jnc : Int) (hs : List Int) (r : Nat) (knc fr : Int) (ts : List Int) : Prop where
  norm : NormC hs r knc hs r knc
  zero : hs.getD 0 0 = 0
  l : comL q hs r ≤ 120
  fr : fr = (horC ys q hs r (comL q hs r) : Nat)
  len : ts.length = horC ys q hs r (comL q hs r) + comL q hs r
  le : ∀ t, ole (eC hs r knc t) (eC ys q jnc t)
  sub : SubA (eC hs r knc)
  z0 : ts.getD 0 0 = 0
  att : ∀ t, 1 ≤ t → t < ts.length → ∃ s : Nat, ts.getD t 0 = s ∧ CAtt ys q jnc hs r knc (horC ys q hs r (comL q hs r)) s t

/-- While a certificate is checked. -/
structure CK (w : World) (a : Option Addr) (n cap : Nat) (zs : List Int) (p : Nat) (inc : Int) (a2 : Option Addr) (n2 cap2 : Nat) (hs : List Int) (r : Nat) (knc : Int) (fr : Int) (at1 : Option Addr) (m mc : Nat) (ts : List Int) (u : World) : Prop where
  fb : Cur3 u w.heap.size (.slice a n cap) (.int .i64 p) (.int .i64 inc)
  cb : P5 u (w.heap.size + 1) (.slice a2 n2 cap2) (.int .i64 r) (.int .i64 knc) (.int .i64 fr) (.slice at1 m mc)
  r1 : RowZ u a n cap zs
  r2 : RowZ u a2 n2 cap2 hs
  r3 : RowZ u at1 m mc ts
  below : Below w.heap.size w u
  sz : w.heap.size + 1 < u.heap.size
theorem CK.call {w u v : World} {a : Option Addr} {n cap : Nat} {zs : List Int} {p : Nat} {inc : Int} {a2 : Option Addr} {n2 cap2 : Nat} {hs : List Int} {r : Nat} {knc : Int} {fr : Int} {at1 : Option Addr} {m mc : Nat} {ts : List Int} (h : CK w a n cap zs p inc a2 n2 cap2 hs r knc fr at1 m mc ts u) (hb : Below u.heap.size u v) : CK w a n cap zs p inc a2 n2 cap2 hs r knc fr at1 m mc ts v :=
  ⟨h.fb.below hb, h.cb.below hb, h.r1.under hb, h.r2.under hb, h.r3.under hb, h.below.trans (hb.mono h.below.size), Nat.lt_of_lt_of_le h.sz hb.size⟩

end Go.Proofs.Ytjjaaknjdmijbaa
