/- Of the document's closure: Prove at a bad curve, Of. By the verifier's side. -/
import Derived.Test.YtjjaaknjdmijbaaQdRCl8
import Derived.Test.YtjjaaknjdmijbaaQdCloFCloH
import Derived.Test.YtjjaaknjdmijbaaQdPwEToRowF
import Derived.Test.YtjjaaknjdmijbaaQdRCl2
import Derived.Test.YtjjaaknjdmijbaaQdRefP
import Derived.Test.YtjjaaknjdmijbaaQdRefV
import Derived.Test.YtjjaaknjdmijbaaQdRCo1ToDecV
namespace Go.Proofs.Ytjjaaknjdmijbaa
open Go.RowKit
set_option linter.unusedSimpArgs false
set_option linter.unusedVariables false

set_option maxRecDepth 100000 in
set_option maxHeartbeats 3200000 in
theorem rprove9_bad (a : Option Addr) (n cap : Nat) (zs : List Int) (p inc : Int) (hp : In64 p) (hi : In64 inc) (hb : okC zs p inc = false) (w : World) (h : RowZ w a n cap zs) :
    Calls Try.prog 45 #[curV a n cap p inc] w (Says (.tuple #[parts0, .int .i64 1]) w) := by
  have HV := Lib.hid hb
  obtain ⟨W, hW⟩ : ∃ W, (w.alloc (.cells #[.slice a n cap, .int .i64 p, .int .i64 inc] 24)).alloc (.cells #[.slice none 0 0, .int .i64 0, .int .i64 0, .int .i64 0, .slice none 0 0] 59) = W := ⟨_, rfl⟩
  have hB : Below w.heap.size w W := by rw [← hW]; exact ((Below.refl _ _).alloc (Nat.le_refl _) _).alloc (by simp) _
  have FB := Lib.hid (show Cur3 W w.heap.size (.slice a n cap) (.int .i64 p) (.int .i64 inc) from by rw [← hW]; exact (Cur3.new w _ _ _ _).alloc _)
  have RB := Lib.hid (show P5 W (w.heap.size + 1) (.slice none 0 0) (.int .i64 0) (.int .i64 0) (.int .i64 0) (.slice none 0 0) from by
    rw [← hW]
    have := p5_new (w.alloc (.cells #[.slice a n cap, .int .i64 p, .int .i64 inc] 24)) (.slice none 0 0) (.int .i64 0) (.int .i64 0) (.int .i64 0) (.slice none 0 0) 59
    rwa [show (w.alloc (.cells #[.slice a n cap, .int .i64 p, .int .i64 inc] 24)).heap.size = w.heap.size + 1 by simp] at this)
  have RW := Lib.hid (h.under hB)
  have HBL := Lib.hid hB
  have HW := Lib.hid hW
  obtain ⟨c0, c1, c2, f0, f1, f2⟩ := FB.out
  clear h hb hB hW
  go_enter Try.func45, Try.ntmps45
  go_upto_region 1 with fail
  try rw [HW.out]
  go_wp2_with fail
  refine (rnormal_bad a n cap zs p inc hp hi HV.out _ RW.out).mono ?_
  rintro e w1 ⟨rfl, hb⟩
  obtain ⟨W1, hw⟩ : ∃ u, w1.alloc (.cells #[.slice none 0 0, .int .i64 0, .int .i64 0] 24) = u := ⟨_, rfl⟩
  have hz : Below W.heap.size W W1 := by rw [← hw]; exact hb.trans ((below_box _).mono hb.size)
  have LS := Lib.hid (below_set5 (b := w.heap.size + 1) (HBL.out.trans (hz.mono HBL.out.size)) (by omega) (.slice none 0 0) (.int .i64 0) (.int .i64 0) (.int .i64 0) (.slice none 0 0))
  clear c0 c1 c2 f0 f1 f2
  obtain ⟨⟨r0, r1, r2, s0, s1, s2⟩, r3, r4, s3, s4⟩ := RB.out.below hz
  have HW1 := Lib.hid hw
  clear hb hz hw
  go_upto_region 2 with fail
  try rw [HW1.out]
  go_wp2_with fail
  exact bodyPost_ret (v := .tuple #[parts0, .int .i64 1]) (by simp [results, Try.results45, go_sem, r0, r1, r2, r3, r4]) rfl ⟨rfl, LS.out⟩

set_option maxRecDepth 100000 in
set_option maxHeartbeats 3200000 in
theorem rof9_any (a : Option Addr) (n cap : Nat) (zs : List Int) (p : Nat) (inc : Int) (g : Good zs p inc) {ys : List Int} {q : Nat} {jnc : Int} (hn : NormC zs p inc ys q jnc) (w : World) (h : RowZ w a n cap zs) :
    Calls Try.prog 43 #[curV a n cap p inc] w (GivesCof ys q jnc w) := by
  have G0 := Lib.hid g
  have HN := Lib.hid hn
  obtain ⟨W, hW⟩ : ∃ W, (w.alloc (.cells #[.slice a n cap, .int .i64 p, .int .i64 inc] 24)).alloc (.cells #[.slice none 0 0, .int .i64 0, .int .i64 0] 24) = W := ⟨_, rfl⟩
  have hB : Below w.heap.size w W := by rw [← hW]; exact ((Below.refl _ _).alloc (Nat.le_refl _) _).alloc (by simp) _
  have T0 := Lib.hid (show OF w a n cap zs p inc W from ⟨by rw [← hW]; exact (Cur3.new w _ _ _ _).alloc _, by rw [← hW]; exact Cur3.new2 w _ _ _ _ _, h.under hB, hB, by rw [← hW]; simp⟩)
  have HW := Lib.hid hW
  obtain ⟨c0, c1, c2, f0, f1, f2⟩ := T0.out.fb
  clear g hn h hB hW
  go_enter Try.func43, Try.ntmps43
  go_wp2_with fail
  try rw [HW.out]
  refine (rprove9 a n cap zs p inc G0.out HN.out _ T0.out.row).mono ?_
  rintro e w3 ⟨hb, ⟨a5, n5, cap5, hs, r, knc, at1, m, mc, ts, rfl, hr, hr2, hc, hx, hx2⟩ | ⟨rfl, hno⟩⟩
  · obtain ⟨fr, hfr⟩ : ∃ k, horC ys q hs r (comL q hs r) = k := ⟨_, rfl⟩
    rw [hfr]
    obtain ⟨W4, hW4⟩ : ∃ W', w3.alloc (.cells #[.slice a5 n5 cap5, .int .i64 r, .int .i64 knc, .int .i64 fr, .slice at1 m mc] 59) = W' := ⟨_, rfl⟩
    have hbx := qbox_below w3 (.cells #[.slice a5 n5 cap5, .int .i64 r, .int .i64 knc, .int .i64 fr, .slice at1 m mc] 59)
    have T4 := Lib.hid (show OF w a n cap zs p inc W4 from by rw [← hW4]; exact (T0.out.call hb).call hbx)
    have HQ := Lib.hid (show GivesCof ys q jnc w (.returned (.tuple #[curV a5 n5 cap5 r knc, .int .i64 0])) (((W4.setCell ⟨w.heap.size + 1, 0, none⟩ (.slice a5 n5 cap5)).setCell ⟨w.heap.size + 1, 1, none⟩ (.int .i64 r)).setCell ⟨w.heap.size + 1, 2, none⟩ (.int .i64 knc)) from by
      have hb4 : Below W.heap.size W W4 := by rw [← hW4]; exact hb.trans (hbx.mono hb.size)
      exact GivesCof.post T0.out.below (by omega) T0.out.sz hb4 (by rw [← hW4]; exact hr.under hbx) hx hc.form hc.few hc.l)
    have PB := Lib.hid (show P5 W4 w3.heap.size (.slice a5 n5 cap5) (.int .i64 r) (.int .i64 knc) (.int .i64 fr) (.slice at1 m mc) from by rw [← hW4]; exact p5_new w3 _ _ _ _ _ _)
    have HW4 := Lib.hid hW4
    clear hb hr hr2 hc hx hx2 hbx hW4 hfr c0 c1 c2 f0 f1 f2
    go_upto_region 2 with fail
    try rw [HW4.out]
    obtain ⟨⟨c0, c1, c2, f0, f1, f2⟩, c3, c4, f3, f4⟩ := PB.out
    obtain ⟨d0, d1, d2, g0, g1, g2⟩ := T4.out.res
    go_wp2_with fail
    exact bodyPost_ret (v := .tuple #[curV a5 n5 cap5 r knc, .int .i64 0]) (by simp [results, Try.results43, go_sem, d0, d1, d2]) rfl HQ.out
  · obtain ⟨W4, hW4⟩ : ∃ W', w3.alloc (.cells #[.slice none 0 0, .int .i64 0, .int .i64 0, .int .i64 0, .slice none 0 0] 59) = W' := ⟨_, rfl⟩
    have hbx := qbox_below w3 (.cells #[.slice none 0 0, .int .i64 0, .int .i64 0, .int .i64 0, .slice none 0 0] 59)
    have T4 := Lib.hid (show OF w a n cap zs p inc W4 from by rw [← hW4]; exact (T0.out.call hb).call hbx)
    have HQ := Lib.hid (show GivesCof ys q jnc w (.returned (.tuple #[curV none 0 0 0 0, .int .i64 3])) (((W4.setCell ⟨w.heap.size + 1, 0, none⟩ (.slice none 0 0)).setCell ⟨w.heap.size + 1, 1, none⟩ (.int .i64 0)).setCell ⟨w.heap.size + 1, 2, none⟩ (.int .i64 0)) from
      ⟨below_set3 T4.out.below (by omega) _ _ _, .inr ⟨rfl, hno⟩⟩)
    have PB := Lib.hid (show P5 W4 w3.heap.size (.slice none 0 0) (.int .i64 0) (.int .i64 0) (.int .i64 0) (.slice none 0 0) from by rw [← hW4]; exact p5_new w3 _ _ _ _ _ _)
    have HW4 := Lib.hid hW4
    clear hb hno hbx hW4 c0 c1 c2 f0 f1 f2
    go_upto_region 2 with fail
    try rw [HW4.out]
    obtain ⟨⟨c0, c1, c2, f0, f1, f2⟩, c3, c4, f3, f4⟩ := PB.out
    obtain ⟨d0, d1, d2, g0, g1, g2⟩ := T4.out.res
    go_wp2_with fail
    exact bodyPost_ret (v := .tuple #[curV none 0 0 0 0, .int .i64 3]) (by simp [results, Try.results43, go_sem, d0, d1, d2]) rfl HQ.out

set_option maxRecDepth 100000 in
set_option maxHeartbeats 3200000 in
theorem rof9_bad (a : Option Addr) (n cap : Nat) (zs : List Int) (p inc : Int) (hp : In64 p) (hi : In64 inc) (hb : okC zs p inc = false) (w : World) (h : RowZ w a n cap zs) :
    Calls Try.prog 43 #[curV a n cap p inc] w (Says (.tuple #[curV none 0 0 0 0, .int .i64 1]) w) := by
  have HV := Lib.hid hb
  obtain ⟨W, hW⟩ : ∃ W, (w.alloc (.cells #[.slice a n cap, .int .i64 p, .int .i64 inc] 24)).alloc (.cells #[.slice none 0 0, .int .i64 0, .int .i64 0] 24) = W := ⟨_, rfl⟩
  have hB : Below w.heap.size w W := by rw [← hW]; exact ((Below.refl _ _).alloc (Nat.le_refl _) _).alloc (by simp) _
  have FB := Lib.hid (show Cur3 W w.heap.size (.slice a n cap) (.int .i64 p) (.int .i64 inc) from by rw [← hW]; exact (Cur3.new w _ _ _ _).alloc _)
  have RB := Lib.hid (show Cur3 W (w.heap.size + 1) (.slice none 0 0) (.int .i64 0) (.int .i64 0) from by rw [← hW]; exact Cur3.new2 w _ _ _ _ _)
  have RW := Lib.hid (h.under hB)
  have HBL := Lib.hid hB
  have HW := Lib.hid hW
  obtain ⟨c0, c1, c2, f0, f1, f2⟩ := FB.out
  clear h hb hB hW
  go_enter Try.func43, Try.ntmps43
  go_wp2_with fail
  try rw [HW.out]
  refine (rprove9_bad a n cap zs p inc hp hi HV.out _ RW.out).mono ?_
  rintro e w3 ⟨rfl, hb⟩
  obtain ⟨W4, hW4⟩ : ∃ W', w3.alloc (.cells #[.slice none 0 0, .int .i64 0, .int .i64 0, .int .i64 0, .slice none 0 0] 59) = W' := ⟨_, rfl⟩
  have hbx := qbox_below w3 (.cells #[.slice none 0 0, .int .i64 0, .int .i64 0, .int .i64 0, .slice none 0 0] 59)
  have hb4 : Below W.heap.size W W4 := by rw [← hW4]; exact hb.trans (hbx.mono hb.size)
  have R4 := Lib.hid (RB.out.below hb4)
  have LS := Lib.hid (below_set3 (b := w.heap.size + 1) (HBL.out.trans (hb4.mono HBL.out.size)) (by omega) (.slice none 0 0) (.int .i64 0) (.int .i64 0))
  have PB := Lib.hid (show P5 W4 w3.heap.size (.slice none 0 0) (.int .i64 0) (.int .i64 0) (.int .i64 0) (.slice none 0 0) from by rw [← hW4]; exact p5_new w3 _ _ _ _ _ _)
  have HW4 := Lib.hid hW4
  clear hb hbx hW4 hb4 c0 c1 c2 f0 f1 f2
  go_upto_region 2 with fail
  try rw [HW4.out]
  obtain ⟨⟨c0, c1, c2, f0, f1, f2⟩, c3, c4, f3, f4⟩ := PB.out
  obtain ⟨d0, d1, d2, g0, g1, g2⟩ := R4.out
  go_wp2_with fail
  exact bodyPost_ret (v := .tuple #[curV none 0 0 0 0, .int .i64 1]) (by simp [results, Try.results43, go_sem, d0, d1, d2]) rfl ⟨rfl, LS.out⟩

end Go.Proofs.Ytjjaaknjdmijbaa

namespace Go.Proofs.Ytjjaaknjdmijbaa
open Go.RowKit
set_option linter.unusedSimpArgs false
set_option linter.unusedVariables false

set_option maxRecDepth 100000 in
set_option maxHeartbeats 3200000 in
theorem rsub9_ok (a : Option Addr) (n cap : Nat) (zs : List Int) (p : Nat) (inc : Int) (g : Good zs p inc) (b : Bool) (hb : b = true ↔ SubA (eC zs p inc)) (w : World) (h : RowZ w a n cap zs) :
    Calls Try.prog 47 #[curV a n cap p inc] w (Says (.tuple #[.bool b, .int .i64 0]) w) := by
  have G0 := Lib.hid g
  have HB := Lib.hid hb
  obtain ⟨W, hW⟩ : ∃ W, w.alloc (.cells #[.slice a n cap, .int .i64 p, .int .i64 inc] 24) = W := ⟨_, rfl⟩
  have X0 := Lib.hid (show Bx W w.heap.size a n cap p inc zs by rw [← hW]; exact Bx.new h)
  have BL := Lib.hid (show Below w.heap.size w W by rw [← hW]; exact below_box _)
  have HW := Lib.hid hW
  clear g hb hW h
  go_enter Try.func47, Try.ntmps47
  go_upto_region 1 with fail
  try rw [HW.out]
  obtain ⟨c0, c1, c2, c3, c4, c5⟩ := X0.out.box
  go_wp2_with fail
  clear c0 c1 c2 c3 c4 c5
  with_reducible refine (rvalid_any a n cap zs p inc (by have := G0.out.p2; exact ⟨by omega, by omega⟩) (by have := G0.out.i1; have := G0.out.i0; exact ⟨by omega, by omega⟩) true ((okC_iff _ _ _).2 G0.out) _ X0.out.row).mono ?_
  rintro e w1 ⟨rfl, hb⟩
  have X1 := Lib.hid (X0.out.under hb)
  have BL1 := Lib.hid (BL.out.trans (hb.mono BL.out.size))
  clear hb X0 BL
  obtain ⟨c0, c1, c2, c3, c4, c5⟩ := X1.out.box
  go_wp2_with fail
  clear c0 c1 c2 c3 c4 c5
  with_reducible refine (rleast_any a n cap zs p inc G0.out _ X1.out.row).mono ?_
  rintro e w2 ⟨a3, n3, cap3, x1, r1, k1, rfl, hb, hr, hnn, hx⟩
  have GX := Lib.hid (hnn.good G0.out)
  have HB2 := Lib.hid (show b = true ↔ SubA (eC x1 r1 k1) from by rw [funext (hnn.eform G0.out).2.1]; exact HB.out)
  have BL2 := Lib.hid (BL1.out.trans (hb.mono BL1.out.size))
  have R2 := Lib.hid hr
  clear hb hr hnn hx
  go_wp2_with fail
  with_reducible refine (radds9 a3 n3 cap3 x1 r1 k1 GX.out b HB2.out _ R2.out).mono ?_
  rintro e w3 ⟨rfl, hb⟩
  have BL3 := Lib.hid (BL2.out.trans (hb.mono BL2.out.size))
  clear hb
  go_wp2_with fail
  exact bodyPost_ret (v := .tuple #[.bool b, .int .i64 0]) (by simp [results, Try.results47, go_sem]) rfl ⟨rfl, BL3.out⟩

set_option maxRecDepth 100000 in
set_option maxHeartbeats 3200000 in
theorem rsub9_bad (a : Option Addr) (n cap : Nat) (zs : List Int) (p inc : Int) (hp : In64 p) (hi : In64 inc) (hb : okC zs p inc = false) (w : World) (h : RowZ w a n cap zs) :
    Calls Try.prog 47 #[curV a n cap p inc] w (Says (.tuple #[.bool false, .int .i64 1]) w) := by
  have HV := Lib.hid (And.intro hb (And.intro hp hi))
  obtain ⟨W, hW⟩ : ∃ W, w.alloc (.cells #[.slice a n cap, .int .i64 p, .int .i64 inc] 24) = W := ⟨_, rfl⟩
  have HK := Lib.hid (show Cur3 W w.heap.size (.slice a n cap) (.int .i64 p) (.int .i64 inc) by rw [← hW]; exact Cur3.new _ _ _ _ _)
  have BL := Lib.hid (show Below w.heap.size w W by rw [← hW]; exact below_box _)
  have HR := Lib.hid (h.under BL.out)
  have HW := Lib.hid hW
  clear hb hW h hp hi
  go_enter Try.func47, Try.ntmps47
  go_upto_region 1 with fail
  try rw [HW.out]
  obtain ⟨c0, c1, c2, c3, c4, c5⟩ := HK.out
  go_wp2_with fail
  clear c0 c1 c2 c3 c4 c5
  with_reducible refine (rvalid_any a n cap zs p inc HV.out.2.1 HV.out.2.2 false HV.out.1 _ HR.out).mono ?_
  rintro e w1 ⟨rfl, hb⟩
  have BL1 := Lib.hid (BL.out.trans (hb.mono BL.out.size))
  clear hb
  go_wp2_with fail
  exact bodyPost_ret (v := .tuple #[.bool false, .int .i64 1]) (by simp [results, Try.results47, go_sem]) rfl ⟨rfl, BL1.out⟩

end Go.Proofs.Ytjjaaknjdmijbaa

namespace Go.Proofs.Ytjjaaknjdmijbaa
open Go.RowKit
set_option linter.unusedSimpArgs false
set_option linter.unusedVariables false

/-- A certificate and an error that a call hands back. -/
def GivesPE (zs : List Int) (p inc fr c : Int) (ts : List Int) (w : World) (e : Ending) (w' : World) : Prop :=
  ∃ (a : Option Addr) (n cap : Nat) (at1 : Option Addr) (m mc : Nat), e = .returned (.tuple #[.agg #[.slice a n cap, .int .i64 p, .int .i64 inc, .int .i64 fr, .slice at1 m mc], .int .i64 c]) ∧ Below w.heap.size w w' ∧ RowZ w' a n cap zs ∧ RowZ w' at1 m mc ts ∧ (∀ x, a = some x → w.heap.size ≤ x.block) ∧ ∀ x, at1 = some x → w.heap.size ≤ x.block
theorem pe_bad {c : Int} {w w' : World} {e : Ending} (h : Says (.tuple #[parts0, .int .i64 c]) w e w') : GivesPE [] 0 0 0 c [] w e w' :=
  ⟨none, 0, 0, none, 0, 0, h.1, h.2, rowZ_none _, rowZ_none _, fun x hx => (by cases hx), fun x hx => (by cases hx)⟩
theorem ce_bad {c : Int} {w w' : World} {e : Ending} (h : Says (.tuple #[curV none 0 0 0 0, .int .i64 c]) w e w') : GivesCE [] 0 0 c w e w' :=
  ⟨none, 0, 0, h.1, h.2, rowZ_none _, fun x hx => (by cases hx)⟩
section
variable {ys : List Int} {q : Nat} {jnc : Int} {w w' : World} {e : Ending}
theorem GivesCof.ce {hs : List Int} {r : Nat} {knc : Int} (hc : CloCan ys q jnc) (hf : EForm hs r knc (eClo ys q jnc)) (h : GivesCof ys q jnc w e w') : GivesCE hs r knc 0 w e w' := by
  obtain ⟨hb, ⟨a, n, cap, zs, p, inc, rfl, hr, hk, _, _, hx⟩ | ⟨_, hno⟩⟩ := h
  · obtain ⟨rfl, rfl, rfl⟩ := hk.unique hf
    exact ⟨a, n, cap, rfl, hb, hr, hx⟩
  · exact absurd hc hno
theorem GivesCof.no (hn : ¬ CloCan ys q jnc) (h : GivesCof ys q jnc w e w') : GivesCE [] 0 0 3 w e w' := by
  obtain ⟨hb, ⟨a, n, cap, zs, p, inc, rfl, hr, hk, h60, hl, hx⟩ | ⟨rfl, hno⟩⟩ := h
  · exact absurd ⟨h60, zs, p, inc, hk, hl⟩ hn
  · exact ⟨none, 0, 0, rfl, hb, rowZ_none _, fun x hx => (by cases hx)⟩
theorem GivesClo.pe {hs : List Int} {r : Nat} {knc : Int} {ts : List Int} (hc : CloIs ys q jnc hs r knc ts) (h : GivesClo ys q jnc w e w') : GivesPE hs r knc (horC ys q hs r (comL q hs r) : Nat) 0 ts w e w' := by
  obtain ⟨hb, ⟨a, n, cap, zs, p, inc, at1, m, mc, us, rfl, hr, hr2, hk, hx, hx2⟩ | ⟨_, hno⟩⟩ := h
  · obtain ⟨rfl, rfl, rfl⟩ := hk.form.unique hc.form
    have := hk.ts.trans hc.ts.symm
    subst this
    exact ⟨a, n, cap, at1, m, mc, rfl, hb, hr, hr2, hx, hx2⟩
  · exact absurd ⟨hc.few, hs, r, knc, hc.form, hc.l⟩ hno
theorem GivesClo.no (hn : ¬ CloCan ys q jnc) (h : GivesClo ys q jnc w e w') : GivesPE [] 0 0 0 3 [] w e w' := by
  obtain ⟨hb, ⟨a, n, cap, zs, p, inc, at1, m, mc, us, rfl, hr, hr2, hk, hx, hx2⟩ | ⟨rfl, hno⟩⟩ := h
  · exact absurd ⟨hk.few, zs, p, inc, hk.form, hk.l⟩ hn
  · exact ⟨none, 0, 0, none, 0, 0, rfl, hb, rowZ_none _, rowZ_none _, fun x hx => (by cases hx), fun x hx => (by cases hx)⟩
end

/-- The six answers of the closure of a curve: the same. -/
def CloU (z : List Int) (p inc : Int) (zs : List Int) (p2 inc2 fr c : Int) (ts : List Int) (b : Bool) (c2 : Int) : Prop :=
  ∀ (a : Option Addr) (n cap : Nat) (w : World), RowZ w a n cap z →
    Calls Try.prog 42 #[curV a n cap p inc] w (GivesCE zs p2 inc2 c w) ∧
    Calls Try.prog 43 #[curV a n cap p inc] w (GivesCE zs p2 inc2 c w) ∧
    Calls Try.prog 44 #[curV a n cap p inc] w (GivesPE zs p2 inc2 fr c ts w) ∧
    Calls Try.prog 45 #[curV a n cap p inc] w (GivesPE zs p2 inc2 fr c ts w) ∧
    Calls Try.prog 46 #[curV a n cap p inc] w (Says (.tuple #[.bool b, .int .i64 c2]) w) ∧
    Calls Try.prog 47 #[curV a n cap p inc] w (Says (.tuple #[.bool b, .int .i64 c2]) w)
theorem clo_u {z : List Int} {p inc : Int} (hp : In64 p) (hi : In64 inc) : ∃ (zs : List Int) (p2 inc2 fr c : Int) (ts : List Int) (b : Bool) (c2 : Int), CloU z p inc zs p2 inc2 fr c ts b c2 := by
  cases hv : okC z p inc with
  | false =>
    exact ⟨_, _, _, _, _, _, _, _, fun a n cap w h => ⟨(clof_bad a n cap z p inc hp hi hv w h).mono fun _ _ h => ce_bad h, (rof9_bad a n cap z p inc hp hi hv w h).mono fun _ _ h => ce_bad h, (cprove_bad a n cap z p inc hp hi hv w h).mono fun _ _ h => pe_bad h, (rprove9_bad a n cap z p inc hp hi hv w h).mono fun _ _ h => pe_bad h, csub_bad a n cap z p inc hp hi hv w h, rsub9_bad a n cap z p inc hp hi hv w h⟩⟩
  | true =>
    obtain ⟨q, rfl, g⟩ := okC_pos hv
    obtain ⟨ys, r, jnc, hn⟩ := g.norm_ex
    obtain ⟨b, hb⟩ : ∃ b : Bool, b = true ↔ SubA (eC z q inc) := by
      by_cases h : SubA (eC z q inc)
      · exact ⟨true, fun _ => h, fun _ => rfl⟩
      · exact ⟨false, fun q => (by cases q), fun k => absurd k h⟩
    by_cases hc : CloCan ys r jnc
    · obtain ⟨h60, hs, s, knc, hf, hl⟩ := id hc
      have hci : CloIs ys r jnc hs s knc (firsts (partsL ys r jnc hs s knc) (horC ys r hs s (comL r hs s) + comL r hs s)) := ⟨hf, h60, hl, rfl⟩
      exact ⟨_, _, _, _, _, _, b, 0, fun a n cap w h => ⟨(clof_any a n cap z q inc g hn w h).mono fun _ _ h => h.ce hc hf, (rof9_any a n cap z q inc g hn w h).mono fun _ _ h => h.ce hc hf, (cprove_any a n cap z q inc g hn w h).mono fun _ _ h => h.pe hci, (rprove9 a n cap z q inc g hn w h).mono fun _ _ h => h.pe hci, csub_ok a n cap z q inc g b hb w h, rsub9_ok a n cap z q inc g b hb w h⟩⟩
    · exact ⟨_, _, _, _, _, _, b, 0, fun a n cap w h => ⟨(clof_any a n cap z q inc g hn w h).mono fun _ _ h => h.no hc, (rof9_any a n cap z q inc g hn w h).mono fun _ _ h => h.no hc, (cprove_any a n cap z q inc g hn w h).mono fun _ _ h => h.no hc, (rprove9 a n cap z q inc g hn w h).mono fun _ _ h => h.no hc, csub_ok a n cap z q inc g b hb w h, rsub9_ok a n cap z q inc g b hb w h⟩⟩
end Go.Proofs.Ytjjaaknjdmijbaa
