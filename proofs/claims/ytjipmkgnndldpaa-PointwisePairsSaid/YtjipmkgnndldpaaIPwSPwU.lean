/- The chapter's examples (awake). By the verifier's side. | The operations' contracts as the walks use them: results in boxes, results that may be errors. By the verifier's side. -/
import Derived.Test.YtjipmkgnndldpaaIPwFPwG
import Derived.Test.YtjipmkgnndldpaaICurveNormalW
import Derived.Test.YtjipmkgnndldpaaIPwMPwOPwXR56M
import Derived.Test.YtjipmkgnndldpaaIKeepC
namespace Go.Proofs.Ytjipmkgnndldpaa
open Go.RowKit
set_option linter.unusedSimpArgs false

set_option maxRecDepth 100000 in
set_option maxHeartbeats 3200000 in
theorem awake5 (w : World) : Calls Try.prog 39 #[] w (Says (.bool true) w) := by
  obtain ⟨l1, l2, l3⟩ := lits5 w
  have Xf := Lib.hid l1
  have Xg := Lib.hid l2
  have HB := Lib.hid l3
  clear l1 l2 l3
  go_enter Try.func39, Try.ntmps39
  go_wp2_with fail
  generalize ((((w.alloc (.cells #[.int .i64 0] 3)).alloc (.cells #[.int .i64 0, .int .i64 10, .int .i64 12] 3)).alloc (.cells #[.slice (some ⟨w.heap.size, 0, none⟩) 1 1, .int .i64 1, .int .i64 3] 38)).alloc (.cells #[.slice (some ⟨w.heap.size + 1, 0, none⟩) 3 3, .int .i64 1, .int .i64 2] 38)) = w0 at Xf Xg HB ⊢
  refine ((min_ok (some ⟨w.heap.size, 0, none⟩) 1 1 [0] 1 3 e0_good (some ⟨w.heap.size + 1, 0, none⟩) 3 3 [0, 10, 12] 1 2 e1_good 1 (lcm_one e0_good e1_good) (by omega) _ Xf.out.row Xg.out.row).mono fun _ _ h => h.ok ex_min_can).mono ?_
  rintro e v1 ⟨a1, n1, cap1, z1, p1, i1, rfl, hb, hr, hf, hx⟩
  obtain ⟨w1, hw⟩ : ∃ W, v1.alloc (.cells #[.slice a1 n1 cap1, .int .i64 p1, .int .i64 i1] 38) = W := ⟨_, rfl⟩
  have hz : Below w0.heap.size w0 w1 := by rw [← hw]; exact hb.trans ((below_box _).mono hb.size)
  have Xf_1 := Lib.hid (Xf.out.under hz)
  have Xg_1 := Lib.hid (Xg.out.under hz)
  have HB_1 := Lib.hid (HB.out.trans (hz.mono HB.out.size))
  have Xm_1 := Lib.hid (show Bx w1 v1.heap.size a1 n1 cap1 p1 i1 z1 by rw [← hw]; exact Bx.new hr)
  have HFm := Lib.hid hf
  have hw1 := hw
  clear hb hr hf hx hz hw
  obtain ⟨c0, c1, c2, c3, c4, c5⟩ := Xf_1.out.box
  go_wp2_with fail
  try rw [hw1]
  clear hw1
  clear c0 c1 c2 c3 c4 c5
  refine ((lower_ok (some ⟨w.heap.size, 0, none⟩) 1 1 [0] 1 3 e0_good 4 (by omega) (by omega) _ Xf_1.out.row).mono fun _ _ h => h.ok ex_low.can).mono ?_
  rintro e v2 ⟨a2, n2, cap2, z2, p2, i2, rfl, hb, hr, hf, hx⟩
  obtain ⟨w2, hw⟩ : ∃ W, v2.alloc (.cells #[.slice a2 n2 cap2, .int .i64 p2, .int .i64 i2] 38) = W := ⟨_, rfl⟩
  have hz : Below w1.heap.size w1 w2 := by rw [← hw]; exact hb.trans ((below_box _).mono hb.size)
  have Xf_2 := Lib.hid (Xf_1.out.under hz)
  have Xg_2 := Lib.hid (Xg_1.out.under hz)
  have Xm_2 := Lib.hid (Xm_1.out.under hz)
  have HB_2 := Lib.hid (HB_1.out.trans (hz.mono HB_1.out.size))
  have Xx_2 := Lib.hid (show Bx w2 v2.heap.size a2 n2 cap2 p2 i2 z2 by rw [← hw]; exact Bx.new hr)
  have HFx := Lib.hid hf
  have hw2 := hw
  clear hb hr hf hx hz hw
  obtain ⟨c0, c1, c2, c3, c4, c5⟩ := Xm_2.out.box
  go_wp2_with fail
  try rw [hw2]
  clear hw2
  clear c0 c1 c2 c3 c4 c5
  with_reducible refine (value_at a1 n1 cap1 z1 p1 i1 HFm.out.good 8 8 rfl (by omega) 24 (HFm.out.at ex_min8) _ Xm_2.out.row).mono ?_
  rintro e w3 ⟨rfl, hb⟩
  have Xf_3 := Lib.hid (Xf_2.out.under hb)
  have Xg_3 := Lib.hid (Xg_2.out.under hb)
  have Xm_3 := Lib.hid (Xm_2.out.under hb)
  have Xx_3 := Lib.hid (Xx_2.out.under hb)
  have HB_3 := Lib.hid (HB_2.out.trans (hb.mono HB_2.out.size))
  clear hb
  obtain ⟨c0, c1, c2, c3, c4, c5⟩ := Xm_3.out.box
  go_wp2_with fail
  clear c0 c1 c2 c3 c4 c5
  with_reducible refine (value_at a1 n1 cap1 z1 p1 i1 HFm.out.good 20 20 rfl (by omega) 48 (HFm.out.at ex_min20) _ Xm_3.out.row).mono ?_
  rintro e w4 ⟨rfl, hb⟩
  have Xf_4 := Lib.hid (Xf_3.out.under hb)
  have Xg_4 := Lib.hid (Xg_3.out.under hb)
  have Xm_4 := Lib.hid (Xm_3.out.under hb)
  have Xx_4 := Lib.hid (Xx_3.out.under hb)
  have HB_4 := Lib.hid (HB_3.out.trans (hb.mono HB_3.out.size))
  clear hb
  obtain ⟨c0, c1, c2, c3, c4, c5⟩ := Xx_4.out.box
  have hr5 := rowZ_lit w4 [0, 0, 2] 3 (by decide) (by decide)
  have hb5 : Below w4.heap.size w4 (w4.alloc (.cells #[.int .i64 0, .int .i64 0, .int .i64 2] 3)) := below_box _
  have HR5 := Lib.hid (And.intro (show RowZ (w4.alloc (.cells #[.int .i64 0, .int .i64 0, .int .i64 2] 3)) (some ⟨w4.heap.size, 0, none⟩) 3 3 [0, 0, 2] from hr5) hb5)
  clear hr5 hb5
  go_wp2_with fail
  clear c0 c1 c2 c3 c4 c5
  refine (same_at HFx.out ex_low _ (Xx_4.out.row.under HR5.out.2) HR5.out.1).mono ?_
  rintro e w5 ⟨rfl, hb⟩
  have HB5 := Lib.hid (HB_4.out.trans ((HR5.out.2.trans (hb.mono HR5.out.2.size)).mono HB_4.out.size))
  clear hb
  go_wp2_with fail
  go_ret
  exact ⟨rfl, HB5.out⟩

end Go.Proofs.Ytjipmkgnndldpaa

namespace Go.Proofs.Ytjipmkgnndldpaa
open Go.RowKit
set_option linter.unusedSimpArgs false

theorem GivesE.no {E : Nat → Option Int} (hc : ¬ ECan E) {w w' : World} {e : Ending} (h : GivesE E w e w') : e = .returned (.tuple #[curV none 0 0 0 0, .int .i64 3]) ∧ Below w.heap.size w w' := by
  obtain ⟨hb, ⟨a, n, cap, zs, p, inc, he, hr, hf, hx⟩ | ⟨he, _⟩⟩ := h
  · exact absurd hf.can hc
  · exact ⟨he, hb⟩

theorem Bx.set {u : World} {F G : Nat} {a : Option Addr} {n cap p : Nat} {inc : Int} {zs : List Int} (h : Bx u F a n cap p inc zs) (hF : F ≠ G) (hx : ∀ x, a = some x → 1 ≤ n → x.block ≠ G) (v0 v1 v2 : Value) : Bx (((u.setCell ⟨G, 0, none⟩ v0).setCell ⟨G, 1, none⟩ v1).setCell ⟨G, 2, none⟩ v2) F a n cap p inc zs :=
  ⟨((h.box.other hF _ _).other hF _ _).other hF _ _, ((h.row.store hx _ _).store hx _ _).store hx _ _⟩
theorem Bx.put {u : World} {F : Nat} {a a2 : Option Addr} {n cap p n2 cap2 q : Nat} {inc jnc : Int} {zs ys : List Int} (h : Bx u F a n cap p inc zs) (hr : RowZ u a2 n2 cap2 ys) (hx : ∀ x, a2 = some x → 1 ≤ n2 → x.block ≠ F) : Bx (((u.setCell ⟨F, 0, none⟩ (.slice a2 n2 cap2)).setCell ⟨F, 1, none⟩ (.int .i64 q)).setCell ⟨F, 2, none⟩ (.int .i64 jnc)) F a2 n2 cap2 q jnc ys :=
  ⟨h.box.set _ _ _, ((hr.store hx _ _).store hx _ _).store hx _ _⟩

/-- A curve with these values and no error, or the zero curve and the error's number. -/
def MX (E : Nat → Option Int) (zs : List Int) (p inc c : Int) : Prop := (c = 0 ∧ ∃ q : Nat, p = q ∧ EForm zs q inc E) ∨ (c = 3 ∧ zs = [] ∧ p = 0 ∧ inc = 0)
/-- A curve in a box, with whatever numbers. -/
structure BxI (u : World) (F : Nat) (a : Option Addr) (n cap : Nat) (p inc : Int) (zs : List Int) : Prop where
  box : Cur3 u F (.slice a n cap) (.int .i64 p) (.int .i64 inc)
  row : RowZ u a n cap zs
theorem BxI.under {u v : World} {F : Nat} {a : Option Addr} {n cap : Nat} {p inc : Int} {zs : List Int} (h : BxI u F a n cap p inc zs) (hb : Below u.heap.size u v) : BxI v F a n cap p inc zs := ⟨h.box.below hb, h.row.under hb⟩
theorem BxI.new {w : World} {a : Option Addr} {n cap : Nat} {p inc : Int} {zs : List Int} (h : RowZ w a n cap zs) : BxI (w.alloc (.cells #[.slice a n cap, .int .i64 p, .int .i64 inc] 38)) w.heap.size a n cap p inc zs := ⟨Cur3.new _ _ _ _ _, h.alloc _⟩

theorem Bx.apart {u v : World} {F b : Nat} {a : Option Addr} {n cap p : Nat} {inc : Int} {zs : List Int} (h : Bx u F a n cap p inc zs) (ha : Apart b u v) (hF : F ≠ b) (hx : ∀ x, a = some x → ¬ x.block = b) : Bx v F a n cap p inc zs := ⟨h.box.apart ha hF, h.row.apart ha hx⟩
theorem BxI.apart {u v : World} {F b : Nat} {a : Option Addr} {n cap : Nat} {p inc : Int} {zs : List Int} (h : BxI u F a n cap p inc zs) (ha : Apart b u v) (hF : F ≠ b) (hx : ∀ x, a = some x → ¬ x.block = b) : BxI v F a n cap p inc zs := ⟨h.box.apart ha hF, h.row.apart ha hx⟩
/-! ## Curves that are periodic by 24 ticks in the end -/

section
variable (a1 : Option Addr) (n1 cap1 : Nat) (z1 : List Int) (p1 : Nat) (i1 : Int) (g1 : Good z1 p1 i1) (a2 : Option Addr) (n2 cap2 : Nat) (z2 : List Int) (p2 : Nat) (i2 : Int) (g2 : Good z2 p2 i2) (h1 : Day (eC z1 p1 i1)) (h2 : Day (eC z2 p2 i2))
    (w : World) (r1 : RowZ w a1 n1 cap1 z1) (r2 : RowZ w a2 n2 cap2 z2)
include g1 g2 h1 h2 r1 r2
end

theorem BxI.put {u : World} {F : Nat} {a a2 : Option Addr} {n cap n2 cap2 : Nat} {p inc p2 i2 : Int} {zs ys : List Int} (h : BxI u F a n cap p inc zs) (hr : RowZ u a2 n2 cap2 ys) (hx : ∀ x, a2 = some x → 1 ≤ n2 → x.block ≠ F) : BxI (((u.setCell ⟨F, 0, none⟩ (.slice a2 n2 cap2)).setCell ⟨F, 1, none⟩ (.int .i64 p2)).setCell ⟨F, 2, none⟩ (.int .i64 i2)) F a2 n2 cap2 p2 i2 ys :=
  ⟨h.box.set _ _ _, ((hr.store hx _ _).store hx _ _).store hx _ _⟩
theorem BxI.set {u : World} {F G : Nat} {a : Option Addr} {n cap : Nat} {p inc : Int} {zs : List Int} (h : BxI u F a n cap p inc zs) (hF : F ≠ G) (hx : ∀ x, a = some x → 1 ≤ n → x.block ≠ G) (v0 v1 v2 : Value) : BxI (((u.setCell ⟨G, 0, none⟩ v0).setCell ⟨G, 1, none⟩ v1).setCell ⟨G, 2, none⟩ v2) F a n cap p inc zs :=
  ⟨((h.box.other hF _ _).other hF _ _).other hF _ _, ((h.row.store hx _ _).store hx _ _).store hx _ _⟩
theorem Bx.i {u : World} {F : Nat} {a : Option Addr} {n cap p : Nat} {inc : Int} {zs : List Int} (h : Bx u F a n cap p inc zs) : BxI u F a n cap p inc zs := ⟨h.box, h.row⟩
theorem MX.ok {E : Nat → Option Int} {zs : List Int} {p inc : Int} (h : MX E zs p inc 0) : ∃ q : Nat, p = q ∧ EForm zs q inc E := by
  rcases h with ⟨_, h⟩ | ⟨h, _⟩
  · exact h
  · exact absurd h (by decide)

end Go.Proofs.Ytjipmkgnndldpaa

namespace Go.Proofs.Ytjipmkgnndldpaa
open Go.RowKit
set_option linter.unusedSimpArgs false

/-- The zero curve is handed back, and an error. -/
def GivesBad (c : Int) (w : World) (e : Ending) (w' : World) : Prop := e = .returned (.tuple #[curV none 0 0 0 0, .int .i64 c]) ∧ Below w.heap.size w w'

theorem GivesBad.post {w w1 w2 : World} {b : Nat} (hB : Below w.heap.size w w1) (hb1 : w.heap.size ≤ b) (h2 : Below w1.heap.size w1 w2) (c : Int) :
    GivesBad c w (.returned (.tuple #[curV none 0 0 0 0, .int .i64 c])) (((w2.setCell ⟨b, 0, none⟩ (.slice none 0 0)).setCell ⟨b, 1, none⟩ (.int .i64 0)).setCell ⟨b, 2, none⟩ (.int .i64 0)) :=
  ⟨rfl, below_set3 (hB.trans (h2.mono hB.size)) hb1 _ _ _⟩

theorem four_boxes (w : World) (fc : FuncId) (a1 : Option Addr) (n1 cap1 : Nat) (p1 i1 : Int) (a2 : Option Addr) (n2 cap2 : Nat) (p2 i2 : Int) {W : World} (hW : (((w.alloc (.cells #[.slice a1 n1 cap1, .int .i64 p1, .int .i64 i1] 38)).alloc (.cells #[.slice a2 n2 cap2, .int .i64 p2, .int .i64 i2] 38)).alloc (.cells #[.func (.func fc) #[] #[]] 108)).alloc (.cells #[.slice none 0 0, .int .i64 0, .int .i64 0] 38) = W) :
    Below w.heap.size w W ∧ Cur3 W (w.heap.size + 3) (.slice none 0 0) (.int .i64 0) (.int .i64 0) ∧ Cur3 W (w.heap.size + 1) (.slice a2 n2 cap2) (.int .i64 p2) (.int .i64 i2) := by
  subst hW
  refine ⟨((((Below.refl _ _).alloc (Nat.le_refl _) _).alloc (by simp) _).alloc (by simp; omega) _).alloc (by simp; omega) _, ?_, ((Cur3.new2 w _ _ _ _ _).alloc _).alloc _⟩
  have := Cur3.new2 ((w.alloc (.cells #[.slice a1 n1 cap1, .int .i64 p1, .int .i64 i1] 38)).alloc (.cells #[.slice a2 n2 cap2, .int .i64 p2, .int .i64 i2] 38)) (.slice none 0 0) (.int .i64 0) (.int .i64 0) 38 (.cells #[.func (.func fc) #[] #[]] 108)
  simpa using this

set_option maxRecDepth 100000 in
set_option maxHeartbeats 1600000 in
theorem pair_bad1 (fc : FuncId) (a1 : Option Addr) (n1 cap1 : Nat) (z1 : List Int) (p1 i1 : Int) (hp1 : In64 p1) (hi1 : In64 i1) (a2 : Option Addr) (n2 cap2 : Nat) (z2 : List Int) (p2 i2 : Int) (hp2 : In64 p2) (hi2 : In64 i2) (v1 : okC z1 p1 i1 = false) (w : World) (h1 : RowZ w a1 n1 cap1 z1) (h2 : RowZ w a2 n2 cap2 z2) :
    Calls Try.prog 125 #[curV a1 n1 cap1 p1 i1, curV a2 n2 cap2 p2 i2, .func (.func fc) #[] #[]] w (GivesBad 1 w) := by
  obtain ⟨W, hW⟩ : ∃ W, (((w.alloc (.cells #[.slice a1 n1 cap1, .int .i64 p1, .int .i64 i1] 38)).alloc (.cells #[.slice a2 n2 cap2, .int .i64 p2, .int .i64 i2] 38)).alloc (.cells #[.func (.func fc) #[] #[]] 108)).alloc (.cells #[.slice none 0 0, .int .i64 0, .int .i64 0] 38) = W := ⟨_, rfl⟩
  obtain ⟨hB, k3, k2⟩ := four_boxes w fc a1 n1 cap1 p1 i1 a2 n2 cap2 p2 i2 hW
  have HB := Lib.hid hB
  have KR := Lib.hid k3
  have K2 := Lib.hid k2
  have HR := Lib.hid (And.intro (h1.under hB) (h2.under hB))
  have HW := Lib.hid hW
  have V1 := Lib.hid v1
  have HI := Lib.hid (And.intro (And.intro hp1 hi1) (And.intro hp2 hi2))
  
  clear h1 h2 hB hW k2 k3 v1 hp1 hi1 hp2 hi2 
  go_enter Try.func125, Try.ntmps125
  go_wp2_with fail
  rw [HW.out]
  refine (valid_any a1 n1 cap1 z1 p1 i1 HI.out.1.1 HI.out.1.2 false V1.out _ HR.out.1).mono ?_
  rintro e w1 ⟨rfl, hb⟩
  have HP := Lib.hid (GivesBad.post (b := w.heap.size + 3) HB.out (by omega) hb 1)
  obtain ⟨c0, c1, c2, f0, f1, f2⟩ := KR.out.below hb
  clear hb
  go_wp2_with fail
  exact bodyPost_ret (v := .tuple #[curV none 0 0 0 0, .int .i64 1]) (by simp [results, Try.results125, go_sem, c0, c1, c2]) rfl HP.out

set_option maxRecDepth 100000 in
set_option maxHeartbeats 1600000 in
theorem pair_bad2 (fc : FuncId) (a1 : Option Addr) (n1 cap1 : Nat) (z1 : List Int) (p1 i1 : Int) (hp1 : In64 p1) (hi1 : In64 i1) (a2 : Option Addr) (n2 cap2 : Nat) (z2 : List Int) (p2 i2 : Int) (hp2 : In64 p2) (hi2 : In64 i2) (v1 : okC z1 p1 i1 = true) (v2 : okC z2 p2 i2 = false) (w : World) (h1 : RowZ w a1 n1 cap1 z1) (h2 : RowZ w a2 n2 cap2 z2) :
    Calls Try.prog 125 #[curV a1 n1 cap1 p1 i1, curV a2 n2 cap2 p2 i2, .func (.func fc) #[] #[]] w (GivesBad 1 w) := by
  obtain ⟨W, hW⟩ : ∃ W, (((w.alloc (.cells #[.slice a1 n1 cap1, .int .i64 p1, .int .i64 i1] 38)).alloc (.cells #[.slice a2 n2 cap2, .int .i64 p2, .int .i64 i2] 38)).alloc (.cells #[.func (.func fc) #[] #[]] 108)).alloc (.cells #[.slice none 0 0, .int .i64 0, .int .i64 0] 38) = W := ⟨_, rfl⟩
  obtain ⟨hB, k3, k2⟩ := four_boxes w fc a1 n1 cap1 p1 i1 a2 n2 cap2 p2 i2 hW
  have HB := Lib.hid hB
  have KR := Lib.hid k3
  have K2 := Lib.hid k2
  have HR := Lib.hid (And.intro (h1.under hB) (h2.under hB))
  have HW := Lib.hid hW
  have V1 := Lib.hid v1
  have HI := Lib.hid (And.intro (And.intro hp1 hi1) (And.intro hp2 hi2))
  have V2 := Lib.hid v2
  clear h1 h2 hB hW k2 k3 v1 hp1 hi1 hp2 hi2 v2
  go_enter Try.func125, Try.ntmps125
  go_wp2_with fail
  rw [HW.out]
  refine (valid_any a1 n1 cap1 z1 p1 i1 HI.out.1.1 HI.out.1.2 true V1.out _ HR.out.1).mono ?_
  rintro e w1 ⟨rfl, hb⟩
  have HR1 := Lib.hid (HR.out.2.under hb)
  have HB1 := Lib.hid (HB.out.trans (hb.mono HB.out.size))
  have KR1 := Lib.hid (KR.out.below hb)
  obtain ⟨c0, c1, c2, f0, f1, f2⟩ := K2.out.below hb
  clear hb
  go_wp2_with fail
  clear c0 c1 c2 f0 f1 f2
  refine (valid_any a2 n2 cap2 z2 p2 i2 HI.out.2.1 HI.out.2.2 false V2.out _ HR1.out).mono ?_
  rintro e w2 ⟨rfl, hb⟩
  have HP := Lib.hid (GivesBad.post (b := w.heap.size + 3) HB1.out (by omega) hb 1)
  obtain ⟨c0, c1, c2, f0, f1, f2⟩ := KR1.out.below hb
  clear hb
  go_wp2_with fail
  exact bodyPost_ret (v := .tuple #[curV none 0 0 0 0, .int .i64 1]) (by simp [results, Try.results125, go_sem, c0, c1, c2]) rfl HP.out

set_option maxRecDepth 100000 in
set_option maxHeartbeats 6400000 in
theorem pair_lim (fc : FuncId)
    (a1 : Option Addr) (n1 cap1 : Nat) (z1 : List Int) (p1 : Nat) (i1 : Int) (g1 : Good z1 p1 i1) (a2 : Option Addr) (n2 cap2 : Nat) (z2 : List Int) (p2 : Nat) (i2 : Int) (g2 : Good z2 p2 i2)
    {y1 y2 : List Int} {q1 q2 : Nat} {j1 j2 : Int} (hn1 : NormC z1 p1 i1 y1 q1 j1) (hn2 : NormC z2 p2 i2 y2 q2 j2) (L : Nat) (hL : q1 / Nat.gcd q1 q2 * q2 = L) (hL2 : 120 < L)
    (w : World) (h1 : RowZ w a1 n1 cap1 z1) (h2 : RowZ w a2 n2 cap2 z2) :
    Calls Try.prog 125 #[curV a1 n1 cap1 p1 i1, curV a2 n2 cap2 p2 i2, .func (.func fc) #[] #[]] w (GivesBad 3 w) := by
  have hmf : ∀ (fn : Fn) (first cap : Array Value) (w : World), (Instr.makeFunc fn first cap).run Try.prog w = .ok (.func fn first cap) w := fun _ _ _ _ => rfl
  obtain ⟨W, hW⟩ : ∃ W, (((w.alloc (.cells #[.slice a1 n1 cap1, .int .i64 p1, .int .i64 i1] 38)).alloc (.cells #[.slice a2 n2 cap2, .int .i64 p2, .int .i64 i2] 38)).alloc (.cells #[.func (.func fc) #[] #[]] 108)).alloc (.cells #[.slice none 0 0, .int .i64 0, .int .i64 0] 38) = W := ⟨_, rfl⟩
  obtain ⟨t0, hsz⟩ := two2_start (p1 := p1) (i1 := i1) (p2 := p2) (i2 := i2) h1 h2 fc hW
  have T0 := Lib.hid t0
  have HSZ := Lib.hid hsz
  have HW := Lib.hid hW
  have H4 := Lib.hid (four_boxes w fc a1 n1 cap1 p1 i1 a2 n2 cap2 p2 i2 hW)
  have V1 := Lib.hid ((okC_iff z1 p1 i1).2 g1)
  have V2 := Lib.hid ((okC_iff z2 p2 i2).2 g2)
  have G1 := Lib.hid g1
  have G2 := Lib.hid g2
  have HN := Lib.hid (And.intro hn1 hn2)
  have HL := Lib.hid hL
  obtain ⟨b1, b2, b3, b4, b5, b6⟩ := norm_p3 g1 hn1
  obtain ⟨d1, d2, d3, d4, d5, d6⟩ := norm_p3 g2 hn2
  have e1 : In64 (p1 : Int) := ⟨by omega, by have := g1.p2; omega⟩
  have e2 : In64 (p2 : Int) := ⟨by omega, by have := g2.p2; omega⟩
  have e3 : In64 i1 := ⟨by have := g1.i0; omega, by have := g1.i1; omega⟩
  have e4 : In64 i2 := ⟨by have := g2.i0; omega, by have := g2.i1; omega⟩
  have HI := Lib.hid (And.intro (And.intro e1 e3) (And.intro e2 e4))
  have hL1 : 1 ≤ L := (lcm_of b1 d1 hL).one
  have hL3 : (120 : Int) < (L : Int) := by omega
  clear t0 hsz hW g1 g2 hn1 hn2 hL h1 h2 e1 e2 e3 e4
  go_enter Try.func125, Try.ntmps125
  go_wp2_with fail
  rw [HW.out]
  refine (valid_any a1 n1 cap1 z1 p1 i1 HI.out.1.1 HI.out.1.2 true V1.out _ T0.out.r1).mono ?_
  rintro e w1 ⟨rfl, hb⟩
  have T1 := Lib.hid (T0.out.call hb)
  have K1 := Lib.hid (And.intro (H4.out.1.trans (hb.mono H4.out.1.size)) (H4.out.2.1.below hb))
  obtain ⟨c0, c1, c2, f0, f1, f2⟩ := T1.out.c2
  have hs1 := Nat.le_trans (Nat.le_of_eq HSZ.out.symm) hb.size
  have HS1 := Lib.hid hs1
  clear hb hs1
  go_wp2_with fail
  refine (valid_any a2 n2 cap2 z2 p2 i2 HI.out.2.1 HI.out.2.2 true V2.out _ T1.out.r2).mono ?_
  rintro e w2 ⟨rfl, hb⟩
  have T2 := Lib.hid (T1.out.call hb)
  have K2 := Lib.hid (And.intro (K1.out.1.trans (hb.mono K1.out.1.size)) (K1.out.2.below hb))
  have HS2 := Lib.hid (Nat.le_trans HS1.out hb.size)
  clear hb c0 c1 c2 f0 f1 f2
  obtain ⟨c0, c1, c2, f0, f1, f2⟩ := T2.out.c1
  go_wp2_with fail
  refine (normal_ok a1 n1 cap1 z1 p1 i1 G1.out _ T2.out.r1).mono ?_
  rintro e w3 ⟨a3, n3, cap3, x1, r1, k1, rfl, hb, hr, hn, hx⟩
  obtain ⟨rfl, rfl, rfl⟩ := hn.canon G1.out G1.out HN.out.1 (fun _ => rfl)
  obtain ⟨W3, hW3⟩ : ∃ W3, (((w3.setCell ⟨w.heap.size, 0, none⟩ (.slice a3 n3 cap3)).setCell ⟨w.heap.size, 1, none⟩ (.int .i64 r1)).setCell ⟨w.heap.size, 2, none⟩ (.int .i64 k1)) = W3 := ⟨_, rfl⟩
  have T3 := Lib.hid (show Two2 w fc a3 n3 cap3 r1 k1 x1 a2 n2 cap2 p2 i2 z2 W3 by rw [← hW3]; exact (T2.out.call hb).put1 hr (fun x h => by have := hx x h; have := HS2.out; omega))
  have HS3 := Lib.hid (show w.heap.size + 4 ≤ W3.heap.size by rw [← hW3]; have := hb.size; have := HS2.out; simp [World.setCell]; omega)
  have HW3 := Lib.hid hW3
  have K3 := Lib.hid (show Below w.heap.size w W3 ∧ Cur3 W3 (w.heap.size + 3) (.slice none 0 0) (.int .i64 0) (.int .i64 0) by rw [← hW3]; exact ⟨below_set3 (K2.out.1.trans (hb.mono K2.out.1.size)) (by omega) _ _ _, (((K2.out.2.below hb).other (by omega) _ _).other (by omega) _ _).other (by omega) _ _⟩)
  have g3 := T2.out.c2.below hb
  clear c0 c1 c2 f0 f1 f2
  obtain ⟨c0, c1, c2, f0, f1, f2⟩ := T2.out.c1.below hb
  obtain ⟨d0', d1', d2', g0', g1', g2'⟩ := g3
  clear hb hr hn hx hW3
  go_wp2_with fail
  rw [HW3.out]
  refine (normal_ok a2 n2 cap2 z2 p2 i2 G2.out _ T3.out.r2).mono ?_
  rintro e w4 ⟨a4, n4, cap4, x2, r2, k2, rfl, hb, hr, hn, hx⟩
  obtain ⟨rfl, rfl, rfl⟩ := hn.canon G2.out G2.out HN.out.2 (fun _ => rfl)
  obtain ⟨W4, hW4⟩ : ∃ W4, (((w4.setCell ⟨w.heap.size + 1, 0, none⟩ (.slice a4 n4 cap4)).setCell ⟨w.heap.size + 1, 1, none⟩ (.int .i64 r2)).setCell ⟨w.heap.size + 1, 2, none⟩ (.int .i64 k2)) = W4 := ⟨_, rfl⟩
  have T4 := Lib.hid (show Two2 w fc a3 n3 cap3 r1 k1 x1 a4 n4 cap4 r2 k2 x2 W4 by rw [← hW4]; exact (T3.out.call hb).put2 hr (fun x h => by have := hx x h; have := HS3.out; omega))
  have HW4 := Lib.hid hW4
  have K4 := Lib.hid (show Below w.heap.size w W4 ∧ Cur3 W4 (w.heap.size + 3) (.slice none 0 0) (.int .i64 0) (.int .i64 0) by rw [← hW4]; exact ⟨below_set3 (K3.out.1.trans (hb.mono K3.out.1.size)) (by omega) _ _ _, (((K3.out.2.below hb).other (by omega) _ _).other (by omega) _ _).other (by omega) _ _⟩)
  clear c0 c1 c2 f0 f1 f2 d0' d1' d2' g0' g1' g2'
  obtain ⟨c0, c1, c2, f0, f1, f2⟩ := T3.out.c2.below hb
  have g4 := T3.out.c1.below hb
  obtain ⟨d0', d1', d2', g0', g1', g2'⟩ := g4
  clear hb hr hn hx hW4
  go_wp2_with fail
  rw [HW4.out]
  refine (common_any r1 r2 L HL.out b1 (by omega) d1 (by omega) _).mono ?_
  rintro e w5 ⟨rfl, hd5⟩
  have HP := Lib.hid (GivesBad.post (b := w.heap.size + 3) K4.out.1 (by omega) (below_dr (Below.refl _ _) hd5) 3)
  clear c0 c1 c2 f0 f1 f2 d0' d1' d2' g0' g1' g2'
  obtain ⟨c0, c1, c2, f0, f1, f2⟩ := K4.out.2.below (below_dr (Below.refl _ _) hd5)
  clear hd5
  go_wp2_with fail
  exact bodyPost_ret (v := .tuple #[curV none 0 0 0 0, .int .i64 3]) (by simp [results, Try.results125, go_sem, c0, c1, c2]) rfl HP.out

set_option maxRecDepth 100000 in
set_option maxHeartbeats 1600000 in
theorem sum_bad (c : Int) (a1 : Option Addr) (n1 cap1 : Nat) (p1 i1 : Int) (a2 : Option Addr) (n2 cap2 : Nat) (p2 i2 : Int) {z1 z2 : List Int}
    (hP : ∀ W, RowZ W a1 n1 cap1 z1 → RowZ W a2 n2 cap2 z2 → Calls Try.prog 125 #[curV a1 n1 cap1 p1 i1, curV a2 n2 cap2 p2 i2, .func (.func 126) #[] #[]] W (GivesBad c W)) (w : World) (h1 : RowZ w a1 n1 cap1 z1) (h2 : RowZ w a2 n2 cap2 z2) :
    Calls Try.prog 45 #[curV a1 n1 cap1 p1 i1, curV a2 n2 cap2 p2 i2] w (GivesBad c w) := by
  have HC := Lib.hid hP
  obtain ⟨W, hW⟩ : ∃ W, ((w.alloc (.cells #[.slice a1 n1 cap1, .int .i64 p1, .int .i64 i1] 38)).alloc (.cells #[.slice a2 n2 cap2, .int .i64 p2, .int .i64 i2] 38)).alloc (.cells #[.slice none 0 0, .int .i64 0, .int .i64 0] 38) = W := ⟨_, rfl⟩
  have hB : Below w.heap.size w W := by rw [← hW]; exact (((Below.refl _ _).alloc (Nat.le_refl _) _).alloc (by simp) _).alloc (by simp; omega) _
  have KR := Lib.hid (show Cur3 W (w.heap.size + 2) (.slice none 0 0) (.int .i64 0) (.int .i64 0) by
    have := Cur3.new2 (w.alloc (.cells #[.slice a1 n1 cap1, .int .i64 p1, .int .i64 i1] 38)) (.slice none 0 0) (.int .i64 0) (.int .i64 0) 38 (.cells #[.slice a2 n2 cap2, .int .i64 p2, .int .i64 i2] 38)
    rw [hW] at this
    simpa using this)
  have HR := Lib.hid (And.intro (h1.under hB) (h2.under hB))
  have HB := Lib.hid hB
  have HW := Lib.hid hW
  clear h1 h2 hB hW hP
  go_enter Try.func45, Try.ntmps45
  go_wp2_with fail
  rw [HW.out]
  refine (HC.out W HR.out.1 HR.out.2).mono ?_
  rintro e w2 ⟨rfl, hb⟩
  have HP := Lib.hid (GivesBad.post (b := w.heap.size + 2) HB.out (by omega) hb c)
  obtain ⟨c0, c1, c2, f0, f1, f2⟩ := KR.out.below hb
  clear hb
  go_wp2_with fail
  exact bodyPost_ret (v := .tuple #[curV none 0 0 0 0, .int .i64 c]) (by simp [results, Try.results45, go_sem, c0, c1, c2]) rfl HP.out

set_option maxRecDepth 100000 in
set_option maxHeartbeats 1600000 in
theorem min_bad (c : Int) (a1 : Option Addr) (n1 cap1 : Nat) (p1 i1 : Int) (a2 : Option Addr) (n2 cap2 : Nat) (p2 i2 : Int) {z1 z2 : List Int}
    (hP : ∀ W, RowZ W a1 n1 cap1 z1 → RowZ W a2 n2 cap2 z2 → Calls Try.prog 125 #[curV a1 n1 cap1 p1 i1, curV a2 n2 cap2 p2 i2, .func (.func 129) #[] #[]] W (GivesBad c W)) (w : World) (h1 : RowZ w a1 n1 cap1 z1) (h2 : RowZ w a2 n2 cap2 z2) :
    Calls Try.prog 47 #[curV a1 n1 cap1 p1 i1, curV a2 n2 cap2 p2 i2] w (GivesBad c w) := by
  have HC := Lib.hid hP
  obtain ⟨W, hW⟩ : ∃ W, ((w.alloc (.cells #[.slice a1 n1 cap1, .int .i64 p1, .int .i64 i1] 38)).alloc (.cells #[.slice a2 n2 cap2, .int .i64 p2, .int .i64 i2] 38)).alloc (.cells #[.slice none 0 0, .int .i64 0, .int .i64 0] 38) = W := ⟨_, rfl⟩
  have hB : Below w.heap.size w W := by rw [← hW]; exact (((Below.refl _ _).alloc (Nat.le_refl _) _).alloc (by simp) _).alloc (by simp; omega) _
  have KR := Lib.hid (show Cur3 W (w.heap.size + 2) (.slice none 0 0) (.int .i64 0) (.int .i64 0) by
    have := Cur3.new2 (w.alloc (.cells #[.slice a1 n1 cap1, .int .i64 p1, .int .i64 i1] 38)) (.slice none 0 0) (.int .i64 0) (.int .i64 0) 38 (.cells #[.slice a2 n2 cap2, .int .i64 p2, .int .i64 i2] 38)
    rw [hW] at this
    simpa using this)
  have HR := Lib.hid (And.intro (h1.under hB) (h2.under hB))
  have HB := Lib.hid hB
  have HW := Lib.hid hW
  clear h1 h2 hB hW hP
  go_enter Try.func47, Try.ntmps47
  go_wp2_with fail
  rw [HW.out]
  refine (HC.out W HR.out.1 HR.out.2).mono ?_
  rintro e w2 ⟨rfl, hb⟩
  have HP := Lib.hid (GivesBad.post (b := w.heap.size + 2) HB.out (by omega) hb c)
  obtain ⟨c0, c1, c2, f0, f1, f2⟩ := KR.out.below hb
  clear hb
  go_wp2_with fail
  exact bodyPost_ret (v := .tuple #[curV none 0 0 0 0, .int .i64 c]) (by simp [results, Try.results47, go_sem, c0, c1, c2]) rfl HP.out

set_option maxRecDepth 100000 in
set_option maxHeartbeats 1600000 in
theorem max_bad (c : Int) (a1 : Option Addr) (n1 cap1 : Nat) (p1 i1 : Int) (a2 : Option Addr) (n2 cap2 : Nat) (p2 i2 : Int) {z1 z2 : List Int}
    (hP : ∀ W, RowZ W a1 n1 cap1 z1 → RowZ W a2 n2 cap2 z2 → Calls Try.prog 125 #[curV a1 n1 cap1 p1 i1, curV a2 n2 cap2 p2 i2, .func (.func 131) #[] #[]] W (GivesBad c W)) (w : World) (h1 : RowZ w a1 n1 cap1 z1) (h2 : RowZ w a2 n2 cap2 z2) :
    Calls Try.prog 49 #[curV a1 n1 cap1 p1 i1, curV a2 n2 cap2 p2 i2] w (GivesBad c w) := by
  have HC := Lib.hid hP
  obtain ⟨W, hW⟩ : ∃ W, ((w.alloc (.cells #[.slice a1 n1 cap1, .int .i64 p1, .int .i64 i1] 38)).alloc (.cells #[.slice a2 n2 cap2, .int .i64 p2, .int .i64 i2] 38)).alloc (.cells #[.slice none 0 0, .int .i64 0, .int .i64 0] 38) = W := ⟨_, rfl⟩
  have hB : Below w.heap.size w W := by rw [← hW]; exact (((Below.refl _ _).alloc (Nat.le_refl _) _).alloc (by simp) _).alloc (by simp; omega) _
  have KR := Lib.hid (show Cur3 W (w.heap.size + 2) (.slice none 0 0) (.int .i64 0) (.int .i64 0) by
    have := Cur3.new2 (w.alloc (.cells #[.slice a1 n1 cap1, .int .i64 p1, .int .i64 i1] 38)) (.slice none 0 0) (.int .i64 0) (.int .i64 0) 38 (.cells #[.slice a2 n2 cap2, .int .i64 p2, .int .i64 i2] 38)
    rw [hW] at this
    simpa using this)
  have HR := Lib.hid (And.intro (h1.under hB) (h2.under hB))
  have HB := Lib.hid hB
  have HW := Lib.hid hW
  clear h1 h2 hB hW hP
  go_enter Try.func49, Try.ntmps49
  go_wp2_with fail
  rw [HW.out]
  refine (HC.out W HR.out.1 HR.out.2).mono ?_
  rintro e w2 ⟨rfl, hb⟩
  have HP := Lib.hid (GivesBad.post (b := w.heap.size + 2) HB.out (by omega) hb c)
  obtain ⟨c0, c1, c2, f0, f1, f2⟩ := KR.out.below hb
  clear hb
  go_wp2_with fail
  exact bodyPost_ret (v := .tuple #[curV none 0 0 0 0, .int .i64 c]) (by simp [results, Try.results49, go_sem, c0, c1, c2]) rfl HP.out

/-! ## Results that may be errors, of arguments that may be -/

/-- A curve in normal form with these values and no error, or the zero curve and an error. -/
def MY (E : Nat → Option Int) (zs : List Int) (p inc c : Int) : Prop := (c = 0 ∧ ∃ q : Nat, p = q ∧ EForm zs q inc E) ∨ (¬ c = 0 ∧ zs = [] ∧ p = 0 ∧ inc = 0)
/-- The same, not in normal form. -/
def MC (E : Nat → Option Int) (zs : List Int) (p inc c : Int) : Prop := (c = 0 ∧ ∃ q : Nat, p = q ∧ Good zs q inc ∧ ∀ t, eC zs q inc t = E t) ∨ (¬ c = 0 ∧ zs = [] ∧ p = 0 ∧ inc = 0)
theorem MY.ok {E : Nat → Option Int} {zs : List Int} {p inc : Int} (h : MY E zs p inc 0) : ∃ q : Nat, p = q ∧ EForm zs q inc E := by
  rcases h with ⟨_, h⟩ | ⟨h, _⟩
  · exact h
  · exact absurd rfl h
def GivesY (E : Nat → Option Int) (w : World) (e : Ending) (w' : World) : Prop :=
  ∃ (a : Option Addr) (n cap : Nat) (zs : List Int) (p inc c : Int), e = .returned (.tuple #[curV a n cap p inc, .int .i64 c]) ∧ Below w.heap.size w w' ∧ RowZ w' a n cap zs ∧ MY E zs p inc c ∧ (c = 0 ∨ c = 1 ∨ c = 3) ∧ ∀ x, a = some x → w.heap.size ≤ x.block
theorem rowZ_none (w : World) : RowZ w none 0 0 [] := ⟨rfl, Nat.le_refl _, Nat.zero_le _, by omega, fun i hi => absurd hi (Nat.not_lt_zero _), fun i hi => absurd hi (Nat.not_lt_zero _)⟩
theorem GivesE.y {E : Nat → Option Int} {w w' : World} {e : Ending} (h : GivesE E w e w') : GivesY E w e w' := by
  obtain ⟨hb, ⟨a, n, cap, zs, p, inc, he, hr, hf, hx⟩ | ⟨he, _⟩⟩ := h
  · exact ⟨a, n, cap, zs, p, inc, 0, he, hb, hr, .inl ⟨rfl, p, rfl, hf⟩, .inl rfl, hx⟩
  · exact ⟨none, 0, 0, [], 0, 0, 3, he, hb, rowZ_none _, .inr ⟨by decide, rfl, rfl, rfl⟩, .inr (.inr rfl), fun x hx => by cases hx⟩
theorem GivesBad.y {E : Nat → Option Int} {c : Int} {w w' : World} {e : Ending} (h : GivesBad c w e w') (hc : c = 1 ∨ c = 3) : GivesY E w e w' :=
  ⟨none, 0, 0, [], 0, 0, c, h.1, h.2, rowZ_none _, .inr ⟨by omega, rfl, rfl, rfl⟩, .inr hc, fun x hx => by cases hx⟩
theorem MC.in {E : Nat → Option Int} {zs : List Int} {p inc c : Int} (h : MC E zs p inc c) : In64 p ∧ In64 inc := by
  rcases h with ⟨_, q, rfl, g, _⟩ | ⟨_, _, rfl, rfl⟩
  · have := g.p2; have := g.i0; have := g.i1; exact ⟨⟨by omega, by omega⟩, ⟨by omega, by omega⟩⟩
  · exact ⟨⟨by omega, by omega⟩, ⟨by omega, by omega⟩⟩

section
variable {E1 E2 : Nat → Option Int} {a1 : Option Addr} {n1 cap1 : Nat} {z1 : List Int} {p1 i1 k1 : Int} {a2 : Option Addr} {n2 cap2 : Nat} {z2 : List Int} {p2 i2 k2 : Int} (h1 : MC E1 z1 p1 i1 k1) (h2 : MC E2 z2 p2 i2 k2) (d1 : Day E1) (d2 : Day E2)
    (w : World) (r1 : RowZ w a1 n1 cap1 z1) (r2 : RowZ w a2 n2 cap2 z2)
include h1 h2 d1 d2 r1 r2
end

end Go.Proofs.Ytjipmkgnndldpaa
