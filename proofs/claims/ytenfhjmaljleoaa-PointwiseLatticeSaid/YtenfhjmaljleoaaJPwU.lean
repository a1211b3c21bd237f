/- Sum, Minimum and Maximum of curves that need not be valid, or whose periods have no small common multiple. By the verifier's side. -/
import Derived.Test.YtenfhjmaljleoaaJPwS
namespace Go.Proofs.Ytenfhjmaljleoaa
open Go.RowKit
set_option linter.unusedSimpArgs false

/-- The zero curve is handed back, and an error. -/
def GivesBad (c : Int) (w : World) (e : Ending) (w' : World) : Prop := e = .returned (.tuple #[curV none 0 0 0 0, .int .i64 c]) ∧ Below w.heap.size w w'

theorem GivesBad.post {w w1 w2 : World} {b : Nat} (hB : Below w.heap.size w w1) (hb1 : w.heap.size ≤ b) (h2 : Below w1.heap.size w1 w2) (c : Int) :
    GivesBad c w (.returned (.tuple #[curV none 0 0 0 0, .int .i64 c])) (((w2.setCell ⟨b, 0, none⟩ (.slice none 0 0)).setCell ⟨b, 1, none⟩ (.int .i64 0)).setCell ⟨b, 2, none⟩ (.int .i64 0)) :=
  ⟨rfl, below_set3 (hB.trans (h2.mono hB.size)) hb1 _ _ _⟩

theorem four_boxes (w : World) (fc : FuncId) (a1 : Option Addr) (n1 cap1 : Nat) (p1 i1 : Int) (a2 : Option Addr) (n2 cap2 : Nat) (p2 i2 : Int) {W : World} (hW : (((w.alloc (.cells #[.slice a1 n1 cap1, .int .i64 p1, .int .i64 i1] 51)).alloc (.cells #[.slice a2 n2 cap2, .int .i64 p2, .int .i64 i2] 51)).alloc (.cells #[.func (.func fc) #[] #[]] 48)).alloc (.cells #[.slice none 0 0, .int .i64 0, .int .i64 0] 51) = W) :
    Below w.heap.size w W ∧ Cur3 W (w.heap.size + 3) (.slice none 0 0) (.int .i64 0) (.int .i64 0) ∧ Cur3 W (w.heap.size + 1) (.slice a2 n2 cap2) (.int .i64 p2) (.int .i64 i2) := by
  subst hW
  refine ⟨((((Below.refl _ _).alloc (Nat.le_refl _) _).alloc (by simp) _).alloc (by simp; omega) _).alloc (by simp; omega) _, ?_, ((Cur3.new2 w _ _ _ _ _).alloc _).alloc _⟩
  have := Cur3.new2 ((w.alloc (.cells #[.slice a1 n1 cap1, .int .i64 p1, .int .i64 i1] 51)).alloc (.cells #[.slice a2 n2 cap2, .int .i64 p2, .int .i64 i2] 51)) (.slice none 0 0) (.int .i64 0) (.int .i64 0) 51 (.cells #[.func (.func fc) #[] #[]] 48)
  simpa using this

set_option maxRecDepth 100000 in
set_option maxHeartbeats 1600000 in
theorem pair_bad1 (fc : FuncId) (a1 : Option Addr) (n1 cap1 : Nat) (z1 : List Int) (p1 i1 : Int) (hp1 : In64 p1) (hi1 : In64 i1) (a2 : Option Addr) (n2 cap2 : Nat) (z2 : List Int) (p2 i2 : Int) (hp2 : In64 p2) (hi2 : In64 i2) (v1 : okC z1 p1 i1 = false) (w : World) (h1 : RowZ w a1 n1 cap1 z1) (h2 : RowZ w a2 n2 cap2 z2) :
    Calls Try.prog 168 #[curV a1 n1 cap1 p1 i1, curV a2 n2 cap2 p2 i2, .func (.func fc) #[] #[]] w (GivesBad 1 w) := by
  obtain ⟨W, hW⟩ : ∃ W, (((w.alloc (.cells #[.slice a1 n1 cap1, .int .i64 p1, .int .i64 i1] 51)).alloc (.cells #[.slice a2 n2 cap2, .int .i64 p2, .int .i64 i2] 51)).alloc (.cells #[.func (.func fc) #[] #[]] 48)).alloc (.cells #[.slice none 0 0, .int .i64 0, .int .i64 0] 51) = W := ⟨_, rfl⟩
  obtain ⟨hB, k3, k2⟩ := four_boxes w fc a1 n1 cap1 p1 i1 a2 n2 cap2 p2 i2 hW
  have HB := Lib.hid hB
  have KR := Lib.hid k3
  have K2 := Lib.hid k2
  have HR := Lib.hid (And.intro (h1.under hB) (h2.under hB))
  have HW := Lib.hid hW
  have V1 := Lib.hid v1
  have HI := Lib.hid (And.intro (And.intro hp1 hi1) (And.intro hp2 hi2))
  
  clear h1 h2 hB hW k2 k3 v1 hp1 hi1 hp2 hi2 
  go_enter Try.func168, Try.ntmps168
  go_wp2_with fail
  rw [HW.out]
  refine (valid_any a1 n1 cap1 z1 p1 i1 HI.out.1.1 HI.out.1.2 false V1.out _ HR.out.1).mono ?_
  rintro e w1 ⟨rfl, hb⟩
  have HP := Lib.hid (GivesBad.post (b := w.heap.size + 3) HB.out (by omega) hb 1)
  obtain ⟨c0, c1, c2, f0, f1, f2⟩ := KR.out.below hb
  clear hb
  go_wp2_with fail
  exact bodyPost_ret (v := .tuple #[curV none 0 0 0 0, .int .i64 1]) (by simp [results, Try.results168, go_sem, c0, c1, c2]) rfl HP.out

set_option maxRecDepth 100000 in
set_option maxHeartbeats 1600000 in
theorem pair_bad2 (fc : FuncId) (a1 : Option Addr) (n1 cap1 : Nat) (z1 : List Int) (p1 i1 : Int) (hp1 : In64 p1) (hi1 : In64 i1) (a2 : Option Addr) (n2 cap2 : Nat) (z2 : List Int) (p2 i2 : Int) (hp2 : In64 p2) (hi2 : In64 i2) (v1 : okC z1 p1 i1 = true) (v2 : okC z2 p2 i2 = false) (w : World) (h1 : RowZ w a1 n1 cap1 z1) (h2 : RowZ w a2 n2 cap2 z2) :
    Calls Try.prog 168 #[curV a1 n1 cap1 p1 i1, curV a2 n2 cap2 p2 i2, .func (.func fc) #[] #[]] w (GivesBad 1 w) := by
  obtain ⟨W, hW⟩ : ∃ W, (((w.alloc (.cells #[.slice a1 n1 cap1, .int .i64 p1, .int .i64 i1] 51)).alloc (.cells #[.slice a2 n2 cap2, .int .i64 p2, .int .i64 i2] 51)).alloc (.cells #[.func (.func fc) #[] #[]] 48)).alloc (.cells #[.slice none 0 0, .int .i64 0, .int .i64 0] 51) = W := ⟨_, rfl⟩
  obtain ⟨hB, k3, k2⟩ := four_boxes w fc a1 n1 cap1 p1 i1 a2 n2 cap2 p2 i2 hW
  have HB := Lib.hid hB
  have KR := Lib.hid k3
  have K2 := Lib.hid k2
  have HR := Lib.hid (And.intro (h1.under hB) (h2.under hB))
  have HW := Lib.hid hW
  have V1 := Lib.hid v1
  have HI := Lib.hid (And.intro (And.intro hp1 hi1) (And.intro hp2 hi2))
  have V2 := Lib.hid v2
  clear h1 h2 hB hW k2 k3 v1 hp1 hi1 hp2 hi2 v2
  go_enter Try.func168, Try.ntmps168
  go_wp2_with fail
  rw [HW.out]
  refine (valid_any a1 n1 cap1 z1 p1 i1 HI.out.1.1 HI.out.1.2 true V1.out _ HR.out.1).mono ?_
  rintro e w1 ⟨rfl, hb⟩
  have HR1 := Lib.hid (HR.out.2.under hb)
  have HB1 := Lib.hid (HB.out.trans (hb.mono HB.out.size))
  have KR1 := Lib.hid (KR.out.below hb)
  obtain ⟨c0, c1, c2, f0, f1, f2⟩ := K2.out.below hb
  clear hb
  go_wp2_with fail
  clear c0 c1 c2 f0 f1 f2
  refine (valid_any a2 n2 cap2 z2 p2 i2 HI.out.2.1 HI.out.2.2 false V2.out _ HR1.out).mono ?_
  rintro e w2 ⟨rfl, hb⟩
  have HP := Lib.hid (GivesBad.post (b := w.heap.size + 3) HB1.out (by omega) hb 1)
  obtain ⟨c0, c1, c2, f0, f1, f2⟩ := KR1.out.below hb
  clear hb
  go_wp2_with fail
  exact bodyPost_ret (v := .tuple #[curV none 0 0 0 0, .int .i64 1]) (by simp [results, Try.results168, go_sem, c0, c1, c2]) rfl HP.out

set_option maxRecDepth 100000 in
set_option maxHeartbeats 1600000 in
theorem sum_bad (c : Int) (a1 : Option Addr) (n1 cap1 : Nat) (p1 i1 : Int) (a2 : Option Addr) (n2 cap2 : Nat) (p2 i2 : Int) {z1 z2 : List Int}
    (hP : ∀ W, RowZ W a1 n1 cap1 z1 → RowZ W a2 n2 cap2 z2 → Calls Try.prog 168 #[curV a1 n1 cap1 p1 i1, curV a2 n2 cap2 p2 i2, .func (.func 120) #[] #[]] W (GivesBad c W)) (w : World) (h1 : RowZ w a1 n1 cap1 z1) (h2 : RowZ w a2 n2 cap2 z2) :
    Calls Try.prog 85 #[curV a1 n1 cap1 p1 i1, curV a2 n2 cap2 p2 i2] w (GivesBad c w) := by
  have HC := Lib.hid hP
  obtain ⟨W, hW⟩ : ∃ W, ((w.alloc (.cells #[.slice a1 n1 cap1, .int .i64 p1, .int .i64 i1] 51)).alloc (.cells #[.slice a2 n2 cap2, .int .i64 p2, .int .i64 i2] 51)).alloc (.cells #[.slice none 0 0, .int .i64 0, .int .i64 0] 51) = W := ⟨_, rfl⟩
  have hB : Below w.heap.size w W := by rw [← hW]; exact (((Below.refl _ _).alloc (Nat.le_refl _) _).alloc (by simp) _).alloc (by simp; omega) _
  have KR := Lib.hid (show Cur3 W (w.heap.size + 2) (.slice none 0 0) (.int .i64 0) (.int .i64 0) by
    have := Cur3.new2 (w.alloc (.cells #[.slice a1 n1 cap1, .int .i64 p1, .int .i64 i1] 51)) (.slice none 0 0) (.int .i64 0) (.int .i64 0) 51 (.cells #[.slice a2 n2 cap2, .int .i64 p2, .int .i64 i2] 51)
    rw [hW] at this
    simpa using this)
  have HR := Lib.hid (And.intro (h1.under hB) (h2.under hB))
  have HB := Lib.hid hB
  have HW := Lib.hid hW
  clear h1 h2 hB hW hP
  go_enter Try.func85, Try.ntmps85
  go_wp2_with fail
  rw [HW.out]
  refine (HC.out W HR.out.1 HR.out.2).mono ?_
  rintro e w2 ⟨rfl, hb⟩
  have HP := Lib.hid (GivesBad.post (b := w.heap.size + 2) HB.out (by omega) hb c)
  obtain ⟨c0, c1, c2, f0, f1, f2⟩ := KR.out.below hb
  clear hb
  go_wp2_with fail
  exact bodyPost_ret (v := .tuple #[curV none 0 0 0 0, .int .i64 c]) (by simp [results, Try.results85, go_sem, c0, c1, c2]) rfl HP.out

set_option maxRecDepth 100000 in
set_option maxHeartbeats 1600000 in
theorem min_bad (c : Int) (a1 : Option Addr) (n1 cap1 : Nat) (p1 i1 : Int) (a2 : Option Addr) (n2 cap2 : Nat) (p2 i2 : Int) {z1 z2 : List Int}
    (hP : ∀ W, RowZ W a1 n1 cap1 z1 → RowZ W a2 n2 cap2 z2 → Calls Try.prog 168 #[curV a1 n1 cap1 p1 i1, curV a2 n2 cap2 p2 i2, .func (.func 169) #[] #[]] W (GivesBad c W)) (w : World) (h1 : RowZ w a1 n1 cap1 z1) (h2 : RowZ w a2 n2 cap2 z2) :
    Calls Try.prog 86 #[curV a1 n1 cap1 p1 i1, curV a2 n2 cap2 p2 i2] w (GivesBad c w) := by
  have HC := Lib.hid hP
  obtain ⟨W, hW⟩ : ∃ W, ((w.alloc (.cells #[.slice a1 n1 cap1, .int .i64 p1, .int .i64 i1] 51)).alloc (.cells #[.slice a2 n2 cap2, .int .i64 p2, .int .i64 i2] 51)).alloc (.cells #[.slice none 0 0, .int .i64 0, .int .i64 0] 51) = W := ⟨_, rfl⟩
  have hB : Below w.heap.size w W := by rw [← hW]; exact (((Below.refl _ _).alloc (Nat.le_refl _) _).alloc (by simp) _).alloc (by simp; omega) _
  have KR := Lib.hid (show Cur3 W (w.heap.size + 2) (.slice none 0 0) (.int .i64 0) (.int .i64 0) by
    have := Cur3.new2 (w.alloc (.cells #[.slice a1 n1 cap1, .int .i64 p1, .int .i64 i1] 51)) (.slice none 0 0) (.int .i64 0) (.int .i64 0) 51 (.cells #[.slice a2 n2 cap2, .int .i64 p2, .int .i64 i2] 51)
    rw [hW] at this
    simpa using this)
  have HR := Lib.hid (And.intro (h1.under hB) (h2.under hB))
  have HB := Lib.hid hB
  have HW := Lib.hid hW
  clear h1 h2 hB hW hP
  go_enter Try.func86, Try.ntmps86
  go_wp2_with fail
  rw [HW.out]
  refine (HC.out W HR.out.1 HR.out.2).mono ?_
  rintro e w2 ⟨rfl, hb⟩
  have HP := Lib.hid (GivesBad.post (b := w.heap.size + 2) HB.out (by omega) hb c)
  obtain ⟨c0, c1, c2, f0, f1, f2⟩ := KR.out.below hb
  clear hb
  go_wp2_with fail
  exact bodyPost_ret (v := .tuple #[curV none 0 0 0 0, .int .i64 c]) (by simp [results, Try.results86, go_sem, c0, c1, c2]) rfl HP.out

set_option maxRecDepth 100000 in
set_option maxHeartbeats 1600000 in
theorem max_bad (c : Int) (a1 : Option Addr) (n1 cap1 : Nat) (p1 i1 : Int) (a2 : Option Addr) (n2 cap2 : Nat) (p2 i2 : Int) {z1 z2 : List Int}
    (hP : ∀ W, RowZ W a1 n1 cap1 z1 → RowZ W a2 n2 cap2 z2 → Calls Try.prog 168 #[curV a1 n1 cap1 p1 i1, curV a2 n2 cap2 p2 i2, .func (.func 117) #[] #[]] W (GivesBad c W)) (w : World) (h1 : RowZ w a1 n1 cap1 z1) (h2 : RowZ w a2 n2 cap2 z2) :
    Calls Try.prog 87 #[curV a1 n1 cap1 p1 i1, curV a2 n2 cap2 p2 i2] w (GivesBad c w) := by
  have HC := Lib.hid hP
  obtain ⟨W, hW⟩ : ∃ W, ((w.alloc (.cells #[.slice a1 n1 cap1, .int .i64 p1, .int .i64 i1] 51)).alloc (.cells #[.slice a2 n2 cap2, .int .i64 p2, .int .i64 i2] 51)).alloc (.cells #[.slice none 0 0, .int .i64 0, .int .i64 0] 51) = W := ⟨_, rfl⟩
  have hB : Below w.heap.size w W := by rw [← hW]; exact (((Below.refl _ _).alloc (Nat.le_refl _) _).alloc (by simp) _).alloc (by simp; omega) _
  have KR := Lib.hid (show Cur3 W (w.heap.size + 2) (.slice none 0 0) (.int .i64 0) (.int .i64 0) by
    have := Cur3.new2 (w.alloc (.cells #[.slice a1 n1 cap1, .int .i64 p1, .int .i64 i1] 51)) (.slice none 0 0) (.int .i64 0) (.int .i64 0) 51 (.cells #[.slice a2 n2 cap2, .int .i64 p2, .int .i64 i2] 51)
    rw [hW] at this
    simpa using this)
  have HR := Lib.hid (And.intro (h1.under hB) (h2.under hB))
  have HB := Lib.hid hB
  have HW := Lib.hid hW
  clear h1 h2 hB hW hP
  go_enter Try.func87, Try.ntmps87
  go_wp2_with fail
  rw [HW.out]
  refine (HC.out W HR.out.1 HR.out.2).mono ?_
  rintro e w2 ⟨rfl, hb⟩
  have HP := Lib.hid (GivesBad.post (b := w.heap.size + 2) HB.out (by omega) hb c)
  obtain ⟨c0, c1, c2, f0, f1, f2⟩ := KR.out.below hb
  clear hb
  go_wp2_with fail
  exact bodyPost_ret (v := .tuple #[curV none 0 0 0 0, .int .i64 c]) (by simp [results, Try.results87, go_sem, c0, c1, c2]) rfl HP.out

/-! ## Results that may be errors, of arguments that may be -/

/-- A curve in normal form with these values and no error, or the zero curve and an error. -/
def MY (E : Nat → Option Int) (zs : List Int) (p inc c : Int) : Prop := (c = 0 ∧ ∃ q : Nat, p = q ∧ EForm zs q inc E) ∨ (¬ c = 0 ∧ zs = [] ∧ p = 0 ∧ inc = 0)
/-- The same, not in normal form. -/
def MC (E : Nat → Option Int) (zs : List Int) (p inc c : Int) : Prop := (c = 0 ∧ ∃ q : Nat, p = q ∧ Good zs q inc ∧ ∀ t, eC zs q inc t = E t) ∨ (¬ c = 0 ∧ zs = [] ∧ p = 0 ∧ inc = 0)
theorem MY.mc {E : Nat → Option Int} {zs : List Int} {p inc c : Int} (h : MY E zs p inc c) : MC E zs p inc c := by
  rcases h with ⟨h, q, hq, hf⟩ | h
  · exact .inl ⟨h, q, hq, hf.1, hf.2.1⟩
  · exact .inr h
theorem MY.ok {E : Nat → Option Int} {zs : List Int} {p inc : Int} (h : MY E zs p inc 0) : ∃ q : Nat, p = q ∧ EForm zs q inc E := by
  rcases h with ⟨_, h⟩ | ⟨h, _⟩
  · exact h
  · exact absurd rfl h
theorem mc_good {zs : List Int} {p : Nat} {inc : Int} (g : Good zs p inc) : MC (eC zs p inc) zs p inc 0 := .inl ⟨rfl, p, rfl, g, fun _ => rfl⟩
theorem mc_of {E : Nat → Option Int} {zs : List Int} {p : Nat} {inc : Int} (f : EForm zs p inc E) : MC E zs p inc 0 := .inl ⟨rfl, p, rfl, f.1, f.2.1⟩
def GivesY (E : Nat → Option Int) (w : World) (e : Ending) (w' : World) : Prop :=
  ∃ (a : Option Addr) (n cap : Nat) (zs : List Int) (p inc c : Int), e = .returned (.tuple #[curV a n cap p inc, .int .i64 c]) ∧ Below w.heap.size w w' ∧ RowZ w' a n cap zs ∧ MY E zs p inc c ∧ (c = 0 ∨ c = 1 ∨ c = 3) ∧ ∀ x, a = some x → w.heap.size ≤ x.block
theorem rowZ_none (w : World) : RowZ w none 0 0 [] := ⟨rfl, Nat.le_refl _, Nat.zero_le _, by omega, fun i hi => absurd hi (Nat.not_lt_zero _), fun i hi => absurd hi (Nat.not_lt_zero _)⟩
theorem GivesE.y {E : Nat → Option Int} {w w' : World} {e : Ending} (h : GivesE E w e w') : GivesY E w e w' := by
  obtain ⟨hb, ⟨a, n, cap, zs, p, inc, he, hr, hf, hx⟩ | ⟨he, _⟩⟩ := h
  · exact ⟨a, n, cap, zs, p, inc, 0, he, hb, hr, .inl ⟨rfl, p, rfl, hf⟩, .inl rfl, hx⟩
  · exact ⟨none, 0, 0, [], 0, 0, 3, he, hb, rowZ_none _, .inr ⟨by decide, rfl, rfl, rfl⟩, .inr (.inr rfl), fun x hx => by cases hx⟩
theorem GivesBad.y {E : Nat → Option Int} {c : Int} {w w' : World} {e : Ending} (h : GivesBad c w e w') (hc : c = 1 ∨ c = 3) : GivesY E w e w' :=
  ⟨none, 0, 0, [], 0, 0, c, h.1, h.2, rowZ_none _, .inr ⟨by omega, rfl, rfl, rfl⟩, .inr hc, fun x hx => by cases hx⟩
theorem okC_zero : okC [] 0 0 = false := by decide
theorem MC.in {E : Nat → Option Int} {zs : List Int} {p inc c : Int} (h : MC E zs p inc c) : In64 p ∧ In64 inc := by
  rcases h with ⟨_, q, rfl, g, _⟩ | ⟨_, _, rfl, rfl⟩
  · have := g.p2; have := g.i0; have := g.i1; exact ⟨⟨by omega, by omega⟩, ⟨by omega, by omega⟩⟩
  · exact ⟨⟨by omega, by omega⟩, ⟨by omega, by omega⟩⟩

section
variable {E1 E2 : Nat → Option Int} {a1 : Option Addr} {n1 cap1 : Nat} {z1 : List Int} {p1 i1 k1 : Int} {a2 : Option Addr} {n2 cap2 : Nat} {z2 : List Int} {p2 i2 k2 : Int} (h1 : MC E1 z1 p1 i1 k1) (h2 : MC E2 z2 p2 i2 k2) (d1 : Day E1) (d2 : Day E2)
    (w : World) (r1 : RowZ w a1 n1 cap1 z1) (r2 : RowZ w a2 n2 cap2 z2)
include h1 h2 d1 d2 r1 r2
theorem sum_y : Calls Try.prog 85 #[curV a1 n1 cap1 p1 i1, curV a2 n2 cap2 p2 i2] w (GivesY (fun t => oadd (E1 t) (E2 t)) w) := by
  have m1 := h1.in
  have m2 := h2.in
  rcases h1 with ⟨_, q1, rfl, g1, e1⟩ | ⟨_, rfl, rfl, rfl⟩
  · rcases h2 with ⟨_, q2, rfl, g2, e2⟩ | ⟨_, rfl, rfl, rfl⟩
    · rw [show (fun t => oadd (E1 t) (E2 t)) = eSum z1 q1 i1 z2 q2 i2 from funext fun t => by unfold eSum; rw [e1, e2]]
      exact (sum_day a1 n1 cap1 z1 q1 i1 g1 a2 n2 cap2 z2 q2 i2 g2 (d1.of e1) (d2.of e2) w r1 r2).mono fun _ _ h => h.y
    · exact (sum_bad 1 a1 n1 cap1 q1 i1 a2 n2 cap2 0 0 (fun W q1' q2' => pair_bad2 _ a1 n1 cap1 z1 q1 i1 m1.1 m1.2 a2 n2 cap2 [] 0 0 m2.1 m2.2 ((okC_iff z1 q1 i1).2 g1) okC_zero W q1' q2') w r1 r2).mono fun _ _ h => h.y (.inl rfl)
  · exact (sum_bad 1 a1 n1 cap1 0 0 a2 n2 cap2 p2 i2 (fun W q1' q2' => pair_bad1 _ a1 n1 cap1 [] 0 0 m1.1 m1.2 a2 n2 cap2 z2 p2 i2 m2.1 m2.2 okC_zero W q1' q2') w r1 r2).mono fun _ _ h => h.y (.inl rfl)
theorem min_y : Calls Try.prog 86 #[curV a1 n1 cap1 p1 i1, curV a2 n2 cap2 p2 i2] w (GivesY (fun t => omin (E1 t) (E2 t)) w) := by
  have m1 := h1.in
  have m2 := h2.in
  rcases h1 with ⟨_, q1, rfl, g1, e1⟩ | ⟨_, rfl, rfl, rfl⟩
  · rcases h2 with ⟨_, q2, rfl, g2, e2⟩ | ⟨_, rfl, rfl, rfl⟩
    · rw [show (fun t => omin (E1 t) (E2 t)) = eMin z1 q1 i1 z2 q2 i2 from funext fun t => by unfold eMin; rw [e1, e2]]
      exact (min_day a1 n1 cap1 z1 q1 i1 g1 a2 n2 cap2 z2 q2 i2 g2 (d1.of e1) (d2.of e2) w r1 r2).mono fun _ _ h => h.y
    · exact (min_bad 1 a1 n1 cap1 q1 i1 a2 n2 cap2 0 0 (fun W q1' q2' => pair_bad2 _ a1 n1 cap1 z1 q1 i1 m1.1 m1.2 a2 n2 cap2 [] 0 0 m2.1 m2.2 ((okC_iff z1 q1 i1).2 g1) okC_zero W q1' q2') w r1 r2).mono fun _ _ h => h.y (.inl rfl)
  · exact (min_bad 1 a1 n1 cap1 0 0 a2 n2 cap2 p2 i2 (fun W q1' q2' => pair_bad1 _ a1 n1 cap1 [] 0 0 m1.1 m1.2 a2 n2 cap2 z2 p2 i2 m2.1 m2.2 okC_zero W q1' q2') w r1 r2).mono fun _ _ h => h.y (.inl rfl)
theorem max_y : Calls Try.prog 87 #[curV a1 n1 cap1 p1 i1, curV a2 n2 cap2 p2 i2] w (GivesY (fun t => omax (E1 t) (E2 t)) w) := by
  have m1 := h1.in
  have m2 := h2.in
  rcases h1 with ⟨_, q1, rfl, g1, e1⟩ | ⟨_, rfl, rfl, rfl⟩
  · rcases h2 with ⟨_, q2, rfl, g2, e2⟩ | ⟨_, rfl, rfl, rfl⟩
    · rw [show (fun t => omax (E1 t) (E2 t)) = eMax z1 q1 i1 z2 q2 i2 from funext fun t => by unfold eMax; rw [e1, e2]]
      exact (max_day a1 n1 cap1 z1 q1 i1 g1 a2 n2 cap2 z2 q2 i2 g2 (d1.of e1) (d2.of e2) w r1 r2).mono fun _ _ h => h.y
    · exact (max_bad 1 a1 n1 cap1 q1 i1 a2 n2 cap2 0 0 (fun W q1' q2' => pair_bad2 _ a1 n1 cap1 z1 q1 i1 m1.1 m1.2 a2 n2 cap2 [] 0 0 m2.1 m2.2 ((okC_iff z1 q1 i1).2 g1) okC_zero W q1' q2') w r1 r2).mono fun _ _ h => h.y (.inl rfl)
  · exact (max_bad 1 a1 n1 cap1 0 0 a2 n2 cap2 p2 i2 (fun W q1' q2' => pair_bad1 _ a1 n1 cap1 [] 0 0 m1.1 m1.2 a2 n2 cap2 z2 p2 i2 m2.1 m2.2 okC_zero W q1' q2') w r1 r2).mono fun _ _ h => h.y (.inl rfl)
end

/-- What stood before a box was made is kept when it is written. -/
theorem BxI.kept {u v : World} {F G : Nat} {a : Option Addr} {n cap : Nat} {p inc : Int} {zs : List Int} (h : BxI u F a n cap p inc zs) (hb : Below u.heap.size u v) (hG : u.heap.size ≤ G) (v0 v1 v2 : Value) : BxI (((v.setCell ⟨G, 0, none⟩ v0).setCell ⟨G, 1, none⟩ v1).setCell ⟨G, 2, none⟩ v2) F a n cap p inc zs :=
  (h.under hb).set (by have := h.box.lt; omega) (fun x hx hn => by have := h.row.far x hx hn; omega) _ _ _

end Go.Proofs.Ytenfhjmaljleoaa
