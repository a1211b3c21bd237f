/- Package machine: the lists of Run. By the verifier's side. -/
import Derived.Test.YtkienpbmoilheaaELnCLnD
import Derived.Test.YtkienpbmoilheaaERTrK
import Derived.Test.YtkienpbmoilheaaELnHLnALnBLnG
namespace Go.Proofs.Ytkienpbmoilheaa
open Go.RowKit
set_option linter.unusedSimpArgs false
set_option linter.unusedVariables false

/-- A block of m slices that are nil. -/
def NilB (w : World) (S m : Nat) : Prop := ∃ cs ty, w.heap[S]? = some (.cells cs ty (0, 0)) ∧ cs.size = m ∧ ∀ c, c < m → cs[c]? = some (.slice none 0 0)
theorem NilB.lt {w : World} {S m : Nat} (h : NilB w S m) : S < w.heap.size := by obtain ⟨cs, ty, h1, _⟩ := h; exact (Array.getElem?_eq_some_iff.1 h1).1
theorem NilB.of_block {w v : World} {S m : Nat} (h : NilB w S m) (hb : v.heap[S]? = w.heap[S]?) : NilB v S m := by obtain ⟨cs, ty, h1, h2⟩ := h; exact ⟨cs, ty, hb.trans h1, h2⟩
theorem NilB.under {w v : World} {S m : Nat} (h : NilB w S m) (hb : Below w.heap.size w v) : NilB v S m := h.of_block (hb.block _ h.lt)
/-- The lists of a run, and its box. -/
def RunB (w6 : World) (nP m D S R : Nat) (wx : World) : Prop :=
  D ≠ S ∧ D ≠ R ∧ S ≠ R ∧ w6.heap.size ≤ D ∧ w6.heap.size ≤ S ∧ w6.heap.size ≤ R ∧ SumC wx D nP (fun _ => -1) ∧ NilB wx S m ∧ TwoR wx R (.slice (some ⟨D, 0, none⟩) nP nP) (.slice (some ⟨S, 0, none⟩) m m)
/-- What the operations of the region have, as far as they have come up. -/
structure RJ (w6 : World) (AP : Value) (nP m : Nat) (t0 t1 t2 t3 t4 t5 t6 x : Value) (L : Array Bool) (wx : World) : Prop where
  hb : Below w6.heap.size w6 wx
  f0 : L.getD 0 false = true → ∃ a, t0 = .slice (some ⟨a, 0, none⟩) 1 1 ∧ wx.cell? ⟨a, 0, none⟩ = some (.int .i64 (-1))
  f1 : L.getD 1 false = true → t1 = AP
  f2 : L.getD 2 false = true → t2 = .int .i64 nP
  f3 : L.getD 3 false = true → ∃ D, t3 = .slice (some ⟨D, 0, none⟩) nP nP ∧ w6.heap.size ≤ D ∧ SumC wx D nP (fun _ => -1)
  f4 : L.getD 4 false = true → t4 = .int .i64 m
  f5 : L.getD 5 false = true → ∃ S, t5 = .slice (some ⟨S, 0, none⟩) m m ∧ w6.heap.size ≤ S ∧ NilB wx S m
  e35 : L.getD 3 false = true → L.getD 5 false = true → ∀ D S, t3 = .slice (some ⟨D, 0, none⟩) nP nP → t5 = .slice (some ⟨S, 0, none⟩) m m → D ≠ S
  f6 : L.getD 6 false = true → t6 = .agg #[t3, t5]
  f7 : L.getD 7 false = true → L.getD 8 false = false → ∃ R, x = .pointer (some ⟨R, 0, none⟩) ∧ w6.heap.size ≤ R ∧ TwoR wx R (.slice none 0 0) (.slice none 0 0)
  e37 : L.getD 3 false = true → L.getD 7 false = true → ∀ D R, t3 = .slice (some ⟨D, 0, none⟩) nP nP → x = .pointer (some ⟨R, 0, none⟩) → D ≠ R
  e57 : L.getD 5 false = true → L.getD 7 false = true → ∀ S R, t5 = .slice (some ⟨S, 0, none⟩) m m → x = .pointer (some ⟨R, 0, none⟩) → S ≠ R
  f8 : L.getD 8 false = true → ∃ D S R, x = .pointer (some ⟨R, 0, none⟩) ∧ RunB w6 nP m D S R wx
  o6 : L.getD 6 false = true → L.getD 3 false = true ∧ L.getD 5 false = true
  o8 : L.getD 8 false = true → L.getD 0 false = true ∧ L.getD 3 false = true ∧ L.getD 5 false = true ∧ L.getD 6 false = true ∧ L.getD 7 false = true
section
variable {w6 wx wy : World} {AP : Value} {nP m : Nat} {t0 t1 t2 t3 t4 t5 t6 x : Value} {L : Array Bool}
theorem RJ.start (t0 t1 t2 t3 t4 t5 t6 x : Value) : RJ w6 AP nP m t0 t1 t2 t3 t4 t5 t6 x (Array.replicate 9 false) w6.drew :=
  ⟨(Below.refl _ _).drew, fun h => absurd h (by decide), fun h => absurd h (by decide), fun h => absurd h (by decide), fun h => absurd h (by decide), fun h => absurd h (by decide), fun h => absurd h (by decide), fun h => absurd h (by decide), fun h => absurd h (by decide), fun h => absurd h (by decide), fun h => absurd h (by decide), fun h => absurd h (by decide), fun h => absurd h (by decide), fun h => absurd h (by decide), fun h => absurd h (by decide)⟩
theorem RJ.mono (h : RJ w6 AP nP m t0 t1 t2 t3 t4 t5 t6 x L wx) (hb : Below wx.heap.size wx wy) : RJ w6 AP nP m t0 t1 t2 t3 t4 t5 t6 x L wy :=
  ⟨h.hb.trans (hb.mono h.hb.size), fun g => by obtain ⟨a, e, c⟩ := h.f0 g; exact ⟨a, e, (hb.cell (lt_of_cell c)).trans c⟩, h.f1, h.f2, fun g => by obtain ⟨D, e, l, s⟩ := h.f3 g; exact ⟨D, e, l, s.under hb⟩, h.f4, fun g => by obtain ⟨S, e, l, s⟩ := h.f5 g; exact ⟨S, e, l, s.under hb⟩, h.e35, h.f6,
   fun g k => by obtain ⟨R, e, l, s⟩ := h.f7 g k; exact ⟨R, e, l, s.under hb⟩, h.e37, h.e57, fun g => by obtain ⟨D, S, R, e, a1, a2, a3, a4, a5, a6, a7, a8, a9⟩ := h.f8 g; exact ⟨D, S, R, e, a1, a2, a3, a4, a5, a6, a7.under hb, a8.under hb, a9.under hb⟩, h.o6, h.o8⟩
theorem keepG {l : Array Bool} {i j : Nat} (hne : i ≠ j) (h : (l.setIfInBounds i true).getD j false = true) : l.getD j false = true := by rwa [getDf_ne hne] at h
theorem setG {l : Array Bool} {i j : Nat} (h : l.getD j false = true) : (l.setIfInBounds i true).getD j false = true := by
  by_cases e : i = j
  · subst e
    have hi : i < l.size := by
      rcases Nat.lt_or_ge i l.size with c | c
      · exact c
      · rw [Array.getD_eq_getD_getElem?, Array.getElem?_eq_none c] at h; cases h
    rw [Array.getD_eq_getD_getElem?, Array.getElem?_setIfInBounds_self_of_lt hi]; rfl
  · rw [getDf_ne e]; exact h
theorem RJ.step0 (h : RJ w6 AP nP m t0 t1 t2 t3 t4 t5 t6 x L wx) (hi : L.getD 0 false = false) {a : Nat} (hc : wx.cell? ⟨a, 0, none⟩ = some (.int .i64 (-1))) : RJ w6 AP nP m (.slice (some ⟨a, 0, none⟩) 1 1) (t1) (t2) (t3) (t4) (t5) (t6) (x) (L.setIfInBounds 0 true) wx :=
  ⟨h.hb, (fun _ => ⟨a, rfl, hc⟩), (keepV13 h.f1 (show 0 ≠ 1 by decide)), (keepV13 h.f2 (show 0 ≠ 2 by decide)), (keepV13 h.f3 (show 0 ≠ 3 by decide)), (keepV13 h.f4 (show 0 ≠ 4 by decide)), (keepV13 h.f5 (show 0 ≠ 5 by decide)), (fun g k => h.e35 (keepG (i := 0) (by decide) g) (keepG (i := 0) (by decide) k)), (keepV13 h.f6 (show 0 ≠ 6 by decide)), (fun g k => h.f7 (keepG (i := 0) (by decide) g) (by rwa [getDf_ne (show 0 ≠ 8 by decide)] at k)), (fun g k => h.e37 (keepG (i := 0) (by decide) g) (keepG (i := 0) (by decide) k)), (fun g k => h.e57 (keepG (i := 0) (by decide) g) (keepG (i := 0) (by decide) k)), (fun g => absurd (h.o8 (keepG (i := 0) (by decide) g)).1 (by rw [hi]; decide)), (fun g => (h.o6 (keepG (i := 0) (by decide) g)).imp setG setG), (fun g => (h.o8 (keepG (i := 0) (by decide) g)).imp setG fun z => z.imp setG fun z => z.imp setG fun z => z.imp setG setG)⟩
theorem RJ.step1 (h : RJ w6 AP nP m t0 t1 t2 t3 t4 t5 t6 x L wx)  : RJ w6 AP nP m (t0) (AP) (t2) (t3) (t4) (t5) (t6) (x) (L.setIfInBounds 1 true) wx :=
  ⟨h.hb, (keepV13 h.f0 (show 1 ≠ 0 by decide)), (fun _ => rfl), (keepV13 h.f2 (show 1 ≠ 2 by decide)), (keepV13 h.f3 (show 1 ≠ 3 by decide)), (keepV13 h.f4 (show 1 ≠ 4 by decide)), (keepV13 h.f5 (show 1 ≠ 5 by decide)), (fun g k => h.e35 (keepG (i := 1) (by decide) g) (keepG (i := 1) (by decide) k)), (keepV13 h.f6 (show 1 ≠ 6 by decide)), (fun g k => h.f7 (keepG (i := 1) (by decide) g) (by rwa [getDf_ne (show 1 ≠ 8 by decide)] at k)), (fun g k => h.e37 (keepG (i := 1) (by decide) g) (keepG (i := 1) (by decide) k)), (fun g k => h.e57 (keepG (i := 1) (by decide) g) (keepG (i := 1) (by decide) k)), (keepV13 h.f8 (show 1 ≠ 8 by decide)), (fun g => (h.o6 (keepG (i := 1) (by decide) g)).imp setG setG), (fun g => (h.o8 (keepG (i := 1) (by decide) g)).imp setG fun z => z.imp setG fun z => z.imp setG fun z => z.imp setG setG)⟩
theorem RJ.step2 (h : RJ w6 AP nP m t0 t1 t2 t3 t4 t5 t6 x L wx)  : RJ w6 AP nP m (t0) (t1) (.int .i64 nP) (t3) (t4) (t5) (t6) (x) (L.setIfInBounds 2 true) wx :=
  ⟨h.hb, (keepV13 h.f0 (show 2 ≠ 0 by decide)), (keepV13 h.f1 (show 2 ≠ 1 by decide)), (fun _ => rfl), (keepV13 h.f3 (show 2 ≠ 3 by decide)), (keepV13 h.f4 (show 2 ≠ 4 by decide)), (keepV13 h.f5 (show 2 ≠ 5 by decide)), (fun g k => h.e35 (keepG (i := 2) (by decide) g) (keepG (i := 2) (by decide) k)), (keepV13 h.f6 (show 2 ≠ 6 by decide)), (fun g k => h.f7 (keepG (i := 2) (by decide) g) (by rwa [getDf_ne (show 2 ≠ 8 by decide)] at k)), (fun g k => h.e37 (keepG (i := 2) (by decide) g) (keepG (i := 2) (by decide) k)), (fun g k => h.e57 (keepG (i := 2) (by decide) g) (keepG (i := 2) (by decide) k)), (keepV13 h.f8 (show 2 ≠ 8 by decide)), (fun g => (h.o6 (keepG (i := 2) (by decide) g)).imp setG setG), (fun g => (h.o8 (keepG (i := 2) (by decide) g)).imp setG fun z => z.imp setG fun z => z.imp setG fun z => z.imp setG setG)⟩
theorem RJ.step4 (h : RJ w6 AP nP m t0 t1 t2 t3 t4 t5 t6 x L wx)  : RJ w6 AP nP m (t0) (t1) (t2) (t3) (.int .i64 m) (t5) (t6) (x) (L.setIfInBounds 4 true) wx :=
  ⟨h.hb, (keepV13 h.f0 (show 4 ≠ 0 by decide)), (keepV13 h.f1 (show 4 ≠ 1 by decide)), (keepV13 h.f2 (show 4 ≠ 2 by decide)), (keepV13 h.f3 (show 4 ≠ 3 by decide)), (fun _ => rfl), (keepV13 h.f5 (show 4 ≠ 5 by decide)), (fun g k => h.e35 (keepG (i := 4) (by decide) g) (keepG (i := 4) (by decide) k)), (keepV13 h.f6 (show 4 ≠ 6 by decide)), (fun g k => h.f7 (keepG (i := 4) (by decide) g) (by rwa [getDf_ne (show 4 ≠ 8 by decide)] at k)), (fun g k => h.e37 (keepG (i := 4) (by decide) g) (keepG (i := 4) (by decide) k)), (fun g k => h.e57 (keepG (i := 4) (by decide) g) (keepG (i := 4) (by decide) k)), (keepV13 h.f8 (show 4 ≠ 8 by decide)), (fun g => (h.o6 (keepG (i := 4) (by decide) g)).imp setG setG), (fun g => (h.o8 (keepG (i := 4) (by decide) g)).imp setG fun z => z.imp setG fun z => z.imp setG fun z => z.imp setG setG)⟩
theorem RJ.step3 (h : RJ w6 AP nP m t0 t1 t2 t3 t4 t5 t6 x L wx) {D : Nat} (hD : w6.heap.size ≤ D) (hs : SumC wx D nP (fun _ => -1)) (h5 : ∀ S, t5 = .slice (some ⟨S, 0, none⟩) m m → L.getD 5 false = true → D ≠ S) (h7 : ∀ R, x = .pointer (some ⟨R, 0, none⟩) → L.getD 7 false = true → D ≠ R) (hi : L.getD 3 false = false) : RJ w6 AP nP m (t0) (t1) (t2) (.slice (some ⟨D, 0, none⟩) nP nP) (t4) (t5) (t6) (x) (L.setIfInBounds 3 true) wx :=
  ⟨h.hb, (keepV13 h.f0 (show 3 ≠ 0 by decide)), (keepV13 h.f1 (show 3 ≠ 1 by decide)), (keepV13 h.f2 (show 3 ≠ 2 by decide)), (fun _ => ⟨D, rfl, hD, hs⟩), (keepV13 h.f4 (show 3 ≠ 4 by decide)), (keepV13 h.f5 (show 3 ≠ 5 by decide)), (fun _ k D0 S0 e1 e2 => by cases e1; exact h5 S0 e2 (keepG (i := 3) (by decide) k)), (fun g => absurd (h.o6 (keepG (i := 3) (by decide) g)).1 (by rw [hi]; decide)), (fun g k => h.f7 (keepG (i := 3) (by decide) g) (by rwa [getDf_ne (show 3 ≠ 8 by decide)] at k)), (fun _ k D0 R0 e1 e2 => by cases e1; exact h7 R0 e2 (keepG (i := 3) (by decide) k)), (fun g k => h.e57 (keepG (i := 3) (by decide) g) (keepG (i := 3) (by decide) k)), (fun g => absurd (h.o8 (keepG (i := 3) (by decide) g)).2.1 (by rw [hi]; decide)), (fun g => (h.o6 (keepG (i := 3) (by decide) g)).imp setG setG), (fun g => (h.o8 (keepG (i := 3) (by decide) g)).imp setG fun z => z.imp setG fun z => z.imp setG fun z => z.imp setG setG)⟩
theorem RJ.step5 (h : RJ w6 AP nP m t0 t1 t2 t3 t4 t5 t6 x L wx) {S : Nat} (hS : w6.heap.size ≤ S) (hs : NilB wx S m) (h3 : ∀ D, t3 = .slice (some ⟨D, 0, none⟩) nP nP → L.getD 3 false = true → D ≠ S) (h7 : ∀ R, x = .pointer (some ⟨R, 0, none⟩) → L.getD 7 false = true → S ≠ R) (hi : L.getD 5 false = false) : RJ w6 AP nP m (t0) (t1) (t2) (t3) (t4) (.slice (some ⟨S, 0, none⟩) m m) (t6) (x) (L.setIfInBounds 5 true) wx :=
  ⟨h.hb, (keepV13 h.f0 (show 5 ≠ 0 by decide)), (keepV13 h.f1 (show 5 ≠ 1 by decide)), (keepV13 h.f2 (show 5 ≠ 2 by decide)), (keepV13 h.f3 (show 5 ≠ 3 by decide)), (keepV13 h.f4 (show 5 ≠ 4 by decide)), (fun _ => ⟨S, rfl, hS, hs⟩), (fun g _ D0 S0 e1 e2 => by cases e2; exact h3 D0 e1 (keepG (i := 5) (by decide) g)), (fun g => absurd (h.o6 (keepG (i := 5) (by decide) g)).2 (by rw [hi]; decide)), (fun g k => h.f7 (keepG (i := 5) (by decide) g) (by rwa [getDf_ne (show 5 ≠ 8 by decide)] at k)), (fun g k => h.e37 (keepG (i := 5) (by decide) g) (keepG (i := 5) (by decide) k)), (fun _ k S0 R0 e1 e2 => by cases e1; exact h7 R0 e2 (keepG (i := 5) (by decide) k)), (fun g => absurd (h.o8 (keepG (i := 5) (by decide) g)).2.2.1 (by rw [hi]; decide)), (fun g => (h.o6 (keepG (i := 5) (by decide) g)).imp setG setG), (fun g => (h.o8 (keepG (i := 5) (by decide) g)).imp setG fun z => z.imp setG fun z => z.imp setG fun z => z.imp setG setG)⟩
theorem RJ.step6 (h : RJ w6 AP nP m t0 t1 t2 t3 t4 t5 t6 x L wx) (hi : L.getD 6 false = false) (g3 : L.getD 3 false = true) (g5 : L.getD 5 false = true) : RJ w6 AP nP m (t0) (t1) (t2) (t3) (t4) (t5) (.agg #[t3, t5]) (x) (L.setIfInBounds 6 true) wx :=
  ⟨h.hb, (keepV13 h.f0 (show 6 ≠ 0 by decide)), (keepV13 h.f1 (show 6 ≠ 1 by decide)), (keepV13 h.f2 (show 6 ≠ 2 by decide)), (keepV13 h.f3 (show 6 ≠ 3 by decide)), (keepV13 h.f4 (show 6 ≠ 4 by decide)), (keepV13 h.f5 (show 6 ≠ 5 by decide)), (fun g k => h.e35 (keepG (i := 6) (by decide) g) (keepG (i := 6) (by decide) k)), (fun _ => rfl), (fun g k => h.f7 (keepG (i := 6) (by decide) g) (by rwa [getDf_ne (show 6 ≠ 8 by decide)] at k)), (fun g k => h.e37 (keepG (i := 6) (by decide) g) (keepG (i := 6) (by decide) k)), (fun g k => h.e57 (keepG (i := 6) (by decide) g) (keepG (i := 6) (by decide) k)), (fun g => absurd (h.o8 (keepG (i := 6) (by decide) g)).2.2.2.1 (by rw [hi]; decide)), (fun _ => ⟨setG g3, setG g5⟩), (fun g => (h.o8 (keepG (i := 6) (by decide) g)).imp setG fun z => z.imp setG fun z => z.imp setG fun z => z.imp setG setG)⟩
theorem RJ.step7 (h : RJ w6 AP nP m t0 t1 t2 t3 t4 t5 t6 x L wx) {R : Nat} (hR : w6.heap.size ≤ R) (hs : TwoR wx R (.slice none 0 0) (.slice none 0 0)) (h3 : ∀ D, t3 = .slice (some ⟨D, 0, none⟩) nP nP → L.getD 3 false = true → D ≠ R) (h5 : ∀ S, t5 = .slice (some ⟨S, 0, none⟩) m m → L.getD 5 false = true → S ≠ R) (hi : L.getD 7 false = false) : RJ w6 AP nP m (t0) (t1) (t2) (t3) (t4) (t5) (t6) (.pointer (some ⟨R, 0, none⟩)) (L.setIfInBounds 7 true) wx :=
  ⟨h.hb, (keepV13 h.f0 (show 7 ≠ 0 by decide)), (keepV13 h.f1 (show 7 ≠ 1 by decide)), (keepV13 h.f2 (show 7 ≠ 2 by decide)), (keepV13 h.f3 (show 7 ≠ 3 by decide)), (keepV13 h.f4 (show 7 ≠ 4 by decide)), (keepV13 h.f5 (show 7 ≠ 5 by decide)), (fun g k => h.e35 (keepG (i := 7) (by decide) g) (keepG (i := 7) (by decide) k)), (keepV13 h.f6 (show 7 ≠ 6 by decide)), (fun _ _ => ⟨R, rfl, hR, hs⟩), (fun g _ D0 R0 e1 e2 => by cases e2; exact h3 D0 e1 (keepG (i := 7) (by decide) g)), (fun g _ S0 R0 e1 e2 => by cases e2; exact h5 S0 e1 (keepG (i := 7) (by decide) g)), (fun g => absurd (h.o8 (keepG (i := 7) (by decide) g)).2.2.2.2 (by rw [hi]; decide)), (fun g => (h.o6 (keepG (i := 7) (by decide) g)).imp setG setG), (fun g => (h.o8 (keepG (i := 7) (by decide) g)).imp setG fun z => z.imp setG fun z => z.imp setG fun z => z.imp setG setG)⟩
theorem RJ.step8 {D S R : Nat} (h : RJ w6 AP nP m t0 t1 t2 (.slice (some ⟨D, 0, none⟩) nP nP) t4 (.slice (some ⟨S, 0, none⟩) m m) t6 (.pointer (some ⟨R, 0, none⟩)) L wx) (hi : L.getD 8 true = false) (g0 : L.getD 0 false = true) (g3 : L.getD 3 false = true) (g5 : L.getD 5 false = true) (g6 : L.getD 6 false = true) (g7 : L.getD 7 false = true) :
    RJ w6 AP nP m t0 t1 t2 (.slice (some ⟨D, 0, none⟩) nP nP) t4 (.slice (some ⟨S, 0, none⟩) m m) t6 (.pointer (some ⟨R, 0, none⟩)) (L.setIfInBounds 8 true) ((wx.setCell ⟨R, 0, none⟩ (.slice (some ⟨D, 0, none⟩) nP nP)).setCell ⟨R, 1, none⟩ (.slice (some ⟨S, 0, none⟩) m m)) := by
  obtain ⟨a, ea, ca⟩ := h.f0 g0
  obtain ⟨D', eD, lD, sD⟩ := h.f3 g3
  obtain ⟨S', eS, lS, sS⟩ := h.f5 g5
  obtain ⟨R', eR, lR, sR⟩ := h.f7 g7 (getD_no hi)
  cases eD; cases eS; cases eR
  have d1 := h.e35 g3 g5 D S rfl rfl
  have d2 := h.e37 g3 g7 D R rfl rfl
  have d3 := h.e57 g5 g7 S R rfl rfl
  have hblk : ∀ k, k ≠ R → ((wx.setCell ⟨R, 0, none⟩ (.slice (some ⟨D, 0, none⟩) nP nP)).setCell ⟨R, 1, none⟩ (.slice (some ⟨S, 0, none⟩) m m)).heap[k]? = wx.heap[k]? := fun k hk => by
    rw [Below.heap_setCell _ _ _ _ hk, Below.heap_setCell _ _ _ _ hk]
  have hne : ¬ a = R := fun e => by
    subst e
    rw [sR.cells.1] at ca; cases ca
  exact ⟨(h.hb.setCell lR _).setCell lR _, (fun _ => ⟨a, ea, (World.cell?_of_block (hblk a hne)).trans ca⟩), (keepV13 h.f1 (show 8 ≠ 1 by decide)), (keepV13 h.f2 (show 8 ≠ 2 by decide)), (fun _ => ⟨D, rfl, lD, sD.of_block (hblk D d2)⟩), (keepV13 h.f4 (show 8 ≠ 4 by decide)), (fun _ => ⟨S, rfl, lS, sS.of_block (hblk S d3)⟩), (fun g k => h.e35 (keepG (i := 8) (by decide) g) (keepG (i := 8) (by decide) k)), (keepV13 h.f6 (show 8 ≠ 6 by decide)), (fun _ k => absurd (getD_self hi) (by rw [k]; decide)), (fun g k => h.e37 (keepG (i := 8) (by decide) g) (keepG (i := 8) (by decide) k)), (fun g k => h.e57 (keepG (i := 8) (by decide) g) (keepG (i := 8) (by decide) k)), (fun _ => ⟨D, S, R, rfl, d1, d2, d3, lD, lS, lR, sD.of_block (hblk D d2), sS.of_block (hblk S d3), sR.set _ _⟩), (fun g => (h.o6 (keepG (i := 8) (by decide) g)).imp setG setG), (fun _ => ⟨setG g0, setG g3, setG g5, setG g6, setG g7⟩)⟩
end
end Go.Proofs.Ytkienpbmoilheaa

namespace Go.Proofs.Ytkienpbmoilheaa
open Go.RowKit
set_option linter.unusedSimpArgs false
set_option linter.unusedVariables false
theorem info_sl16 : ∃ i : TypeInfo, Try.prog.info? 22 = some i ∧ i.zero = some (.slice none 0 0) ∧ i.size = 1 ∧ i.bytes = 24 := by
  have hi : (Try.prog.info? 22).map (fun i => (i.zero, i.size, i.bytes)) = some (some (.slice none 0 0), 1, 24) := by kernel_rfl
  obtain ⟨i, hi, hzz⟩ := Option.map_eq_some_iff.1 hi
  simp only [Prod.mk.injEq] at hzz
  exact ⟨i, hi, hzz.1, hzz.2.1, hzz.2.2⟩
theorem make16 (N : Nat) (hN : N ≤ 4096) (w : World) : (Instr.makeSlice 89 (.int .i64 (N : Int)) (.int .i64 (N : Int))).run Try.prog w = .ok (.slice (some ⟨w.heap.size, 0, none⟩) N N) (w.alloc (.cells (madeCells #[.slice none 0 0] N) 22)) := by
  obtain ⟨i0, hi, hz0, hz1, hz2⟩ := info_sl16
  have := run_make (P := Try.prog) w 89 22 i0 _ Try.underlying89 hi hz0 .i64 .i64 (N : Int) (N : Int) (by omega) (by omega) (by rw [hz2]; omega) (by omega)
  rw [hz1] at this
  simp only [Int.toNat_natCast, Nat.mul_one] at this
  exact this
theorem nilB_new (w : World) (m : Nat) : NilB (w.alloc (.cells (madeCells #[.slice none 0 0] m) 22)) w.heap.size m :=
  ⟨_, _, World.alloc_heap_new w _, size_madeCells _ _, fun k hk => by simp [madeCells, hk, Nat.mod_one]⟩
theorem no8 {w6 wx : World} {AP : Value} {nP m : Nat} {t0 t1 t2 t3 t4 t5 t6 x : Value} {L : Array Bool} (h : RJ w6 AP nP m t0 t1 t2 t3 t4 t5 t6 x L wx) (ho : L.getD 3 false = false ∨ L.getD 5 false = false) : L.getD 8 false = false := by
  cases e : L.getD 8 false with
  | false => rfl
  | true =>
    obtain ⟨_, h3, h5, _⟩ := h.o8 e
    rcases ho with c | c
    · rw [c] at h3; cases h3
    · rw [c] at h5; cases h5
/-- A store of a run into its box. -/
theorem wp_store_run {w : World} {o : Oper} {a : Act} {K : Act → World → Prop} {Q : Exit → Act → World → Prop} (p x : Operand) (ho : o.op = .store 91 p x) (hd : o.dst = none) (R : Nat) (a0 a1 : Option Addr) (n0 c0 n1 c1 : Nat) {u0 u1 : Value} (hp : a.eval p = .pointer (some ⟨R, 0, none⟩)) (hx : a.eval x = .agg #[.slice a0 n0 c0, .slice a1 n1 c1])
    (hR : TwoR w R u0 u1) (h : K a ((w.setCell ⟨R, 0, none⟩ (.slice a0 n0 c0)).setCell ⟨R, 1, none⟩ (.slice a1 n1 c1))) : Oper.wp Try.prog o a w K Q := by
  obtain ⟨z0, z1⟩ := hR.cells
  have zf := hR.frozen 0
  have zf1 := hR.frozen 1
  have hR2 : TwoR (w.setCell ⟨R, 0, none⟩ (.slice a0 n0 c0)) R (.slice a0 n0 c0) u1 := by
    obtain ⟨ty, h1⟩ := hR; exact ⟨ty, block_set 0 _ h1⟩
  have y1 := hR2.cells.2
  have yf1 := hR2.frozen 1
  clear hR hR2
  unfold Oper.wp
  simp only [execOp, ho, hp, hx]
  go_simp
  exact h
/-- What Run gives. -/
def RunIs (w0 : World) (nP m N : Nat) (Dn : Nat → Int) (Sn : Nat → Nat → Int) (v : Value) (wx : World) : Prop :=
  ∃ D S Z, v = .agg #[.slice (some ⟨D, 0, none⟩) nP nP, .slice (some ⟨S, 0, none⟩) m m] ∧ w0.heap.size ≤ D ∧ w0.heap.size ≤ S ∧ w0.heap.size ≤ Z ∧ (nP = 0 ∨ SumC wx D nP Dn) ∧ SlcC wx S Z m N ∧ (∀ c, c < m → SumC wx (Z + c) N (Sn c)) ∧ Below w0.heap.size w0 wx
/-- While the classes' lists are made. -/
structure MkR (w6 : World) (nP m N D S R Z k : Nat) (wx : World) : Prop where
  bel : Below w6.heap.size w6 wx
  ne : D ≠ S ∧ D ≠ R ∧ S ≠ R ∧ w6.heap.size ≤ D ∧ w6.heap.size ≤ S ∧ w6.heap.size ≤ R ∧ D < Z ∧ S < Z ∧ R < Z
  dn : SumC wx D nP (fun _ => -1)
  rb : TwoR wx R (.slice (some ⟨D, 0, none⟩) nP nP) (.slice (some ⟨S, 0, none⟩) m m)
  sl : ∃ cs ty, wx.heap[S]? = some (.cells cs ty (0, 0)) ∧ cs.size = m ∧ (∀ c, c < k → cs[c]? = some (.slice (some ⟨Z + c, 0, none⟩) N N)) ∧ ∀ c, k ≤ c → c < m → cs[c]? = some (.slice none 0 0)
  sn : ∀ c, c < k → SumC wx (Z + c) N (fun _ => 0)
  sz : wx.heap.size = Z + k
section
variable {w6 wx wy : World} {nP m N D S R Z k : Nat}
theorem MkR.start (h : RunB w6 nP m D S R wx) (hb : Below w6.heap.size w6 wx) : MkR w6 nP m N D S R wx.heap.size 0 wx := by
  obtain ⟨h1, h2, h3, h4, h5, h6, h7, h8, h9⟩ := h
  have l1 := h7.lt
  have l2 := h8.lt
  have l3 := h9.lt
  obtain ⟨cs, ty, g1, g2, g3⟩ := h8
  exact ⟨hb, ⟨h1, h2, h3, h4, h5, h6, l1, l2, l3⟩, h7, h9, ⟨cs, ty, g1, g2, fun c hc => absurd hc (Nat.not_lt_zero _), fun c _ hc => g3 c hc⟩, fun c hc => absurd hc (Nat.not_lt_zero _), rfl⟩
theorem MkR.drew (h : MkR w6 nP m N D S R Z k wx) : MkR w6 nP m N D S R Z k wx.drew := by
  obtain ⟨cs, ty, g1, g2, g3, g4⟩ := h.sl
  exact ⟨h.bel.trans ((Below.refl _ _).drew), h.ne, h.dn.of_block rfl, h.rb.of_block rfl, ⟨cs, ty, g1, g2, g3, g4⟩, fun c hc => (h.sn c hc).of_block rfl, h.sz⟩
theorem MkR.at (h : MkR w6 nP m N D S R Z k wx) (hk : k < m) : wx.cell? ⟨S, k, none⟩ = some (.slice none 0 0) ∧ wx.frozen? ⟨S, k, none⟩ = false := by
  obtain ⟨cs, ty, g1, g2, g3, g4⟩ := h.sl
  exact ⟨by rw [← g4 k (Nat.le_refl _) hk]; simp [World.cell?, g1], by simp [World.frozen?, g1]⟩
theorem MkR.made (h : MkR w6 nP m N D S R Z k wx) (hk : k < m) : MkR w6 nP m N D S R Z (k + 1) ((wx.alloc (.cells (madeCells #[.int .i64 0] N) 3)).setCell ⟨S, k, none⟩ (.slice (some ⟨Z + k, 0, none⟩) N N)) := by
  obtain ⟨cs, ty, g1, g2, g3, g4⟩ := h.sl
  obtain ⟨h1, h2, h3, h4, h5, h6, h7, h8, h9⟩ := h.ne
  have hz := h.sz
  have hb : Below wx.heap.size wx (wx.alloc (.cells (madeCells #[.int .i64 0] N) 3)) := (Below.refl _ _).alloc (Nat.le_refl _) _
  have hS := (Array.getElem?_eq_some_iff.1 g1).1
  refine ⟨(h.bel.trans (hb.mono h.bel.size)).setCell h5 _, h.ne, (h.dn.under hb).other h1 _ _, (h.rb.under hb).other (fun e => h3 e.symm) _ _, ⟨cs.setIfInBounds k (.slice (some ⟨Z + k, 0, none⟩) N N), ty, block_set k _ ((hb.block S hS).trans g1), by simpa using g2, fun c hc => ?_, fun c hc hm => ?_⟩, fun c hc => ?_, ?_⟩
  · by_cases e : c = k
    · subst e; rw [Array.getElem?_setIfInBounds_self_of_lt (by omega)]
    · rw [Array.getElem?_setIfInBounds_ne (fun x => e x.symm)]; exact g3 c (by omega)
  · rw [Array.getElem?_setIfInBounds_ne (by omega)]; exact g4 c (by omega) hm
  · by_cases e : c = k
    · subst e
      refine SumC.other ?_ (by omega) _ _
      rw [← hz]
      exact ⟨_, _, World.alloc_heap_new wx _, by rw [size_madeCells]; exact Nat.le_refl _, fun i hi => by simp [madeCells, hi, Nat.mod_one]⟩
    · exact ((h.sn c (by omega)).under hb).other (by omega) _ _
  · simp [World.setCell]; omega
end
/-- The room that is left, read from memory. -/
def roomN (X : Nat) (wx : World) : Nat := match wx.cell? ⟨X, 4, none⟩ with
  | some v => (intOf v).toNat
  | none => 0
theorem roomN_of {X : Nat} {wx : World} {r : Int} (h : wx.cell? ⟨X, 4, none⟩ = some (.int .i64 r)) : roomN X wx = r.toNat := by
  unfold roomN; rw [h]; rfl
theorem mch_of {w w6 wk w9 : World} {aP : Option Addr} {nP cP : Nat} {lp : List Pk} {m N D S R Z : Nat} {v9 : Value} (HP : PkR w6 aP nP cP lp) (HK : MkR w6 nP m N D S R Z m wk) (HS : StL wk aP nP cP lp wk.heap.size nP v9 w9) : ∃ aL cL L, Mch w6 aP nP cP lp m N D S R Z wk.heap.size aL cL L (szI lp) (fun _ => -1) (fun _ _ => 0) (-1) 0 0 w9 := by
  obtain ⟨aL, cL, L, hv, hL, hlf, hc1, hc2⟩ := HS.fin HP.len
  obtain ⟨h1, h2, h3, h4, h5, h6, h7, h8, h9⟩ := HK.ne
  have hz := HK.sz
  obtain ⟨cs, ty, g1, g2, g3, g4⟩ := HK.sl
  subst hv
  refine ⟨aL, cL, L, HK.bel.trans (HS.bel.mono HK.bel.size), HP, ⟨h4, h7⟩, ⟨h5, h8, h1⟩, by omega, hL, ⟨h9, fun e => h2 e.symm, fun e => h3 e.symm⟩, HK.rb.under HS.bel, .inr (HK.dn.under HS.bel), ?_, fun c hc => (HK.sn c hc).under HS.bel, hlf, hc1, hc2, HS.st⟩
  exact SlcC.under ⟨cs, ty, g1, by omega, g3⟩ HS.bel
theorem runIs_of {w w6 wt : World} {aP : Option Addr} {nP cP : Nat} {lp : List Pk} {C : Int} {m N D S R Z X Q t : Nat} {aL : Option Addr} {cL L : Nat} {cur tick room : Int} (hQ : w.heap.size = Q) (hN : t + 1 = N) (hb : Below w.heap.size w w6) (hs : w6.heap.size = Q + 1) (h : LnT w6 aP nP cP lp C m N D S R Z X aL cL L t 0 cur tick room wt) :
    RunIs w nP m N (lnDone C lp t) (fun c t => sentF lp (c : Int) (lineS C lp t)) (.agg #[.slice (some ⟨D, 0, none⟩) nP nP, .slice (some ⟨S, 0, none⟩) m m]) ((wt.setCell ⟨Q, 0, none⟩ (.slice (some ⟨D, 0, none⟩) nP nP)).setCell ⟨Q, 1, none⟩ (.slice (some ⟨S, 0, none⟩) m m)) := by
  have h1 := h.mch.oD
  have h2 := h.mch.oS
  refine ⟨D, S, Z, rfl, by omega, by omega, by omega, h.mch.dn.imp id fun x => (x.other (by omega) _ _).other (by omega) _ _, (h.mch.sl.other (by omega) _ _).other (by omega) _ _, fun c hc => ((((h.mch.sn c hc).other (by omega) _ _).other (by omega) _ _)).congr fun k hk => ?_, ((hb.trans (h.mch.bel.mono (by omega))).setCell (show w.heap.size ≤ Q by omega) _).setCell (show w.heap.size ≤ Q by omega) _⟩
  unfold snT
  simp only [Nat.not_lt_zero, false_and, if_false]
  rw [if_pos (by omega)]
set_option maxRecDepth 100000 in
set_option maxHeartbeats 6400000 in
theorem mrun16 (aP : Option Addr) (nP cP : Nat) (lp : List Pk) (C : Int) (m T : Nat) (hC1 : 1 ≤ C) (hC2 : C ≤ 4000) (hm1 : 1 ≤ m) (hm2 : m ≤ 6) (hT : T ≤ 2000) (w : World) (hP : PkR w aP nP cP lp) (hv : Trc lp) (hf : ∀ i, i < nP → (lp.getD i default).f < (m : Int)) :
    Calls Try.prog 191 #[.int .i64 C, .int .i64 m, .slice aP nP cP, .int .i64 T, .func (.func 192) #[] #[]] w fun e w' => ∃ v, e = .returned v ∧ RunIs w nP m (T + 1) (lnDone C lp T) (fun c t => sentF lp (c : Int) (lineS C lp t)) v w' := by
  have HP := Lib.hid hP
  have HV := Lib.hid hv
  have HF := Lib.hid hf
  have hn : nP ≤ 60 := by rw [← hP.len]; exact hv.len
  have hpc := hP.le
  have HPL := Lib.hid hP.len
  clear hP hv hf
  go_enter Try.func191, Try.ntmps191
  go_upto_region 1 with fail
  obtain ⟨w6, hw6⟩ : ∃ V, w.alloc (.cells #[.slice none 0 0, .slice none 0 0] 91) = V := ⟨_, rfl⟩
  have HB6 := Lib.hid (show Below w.heap.size w w6 from by rw [← hw6]; exact (Below.refl _ _).alloc (Nat.le_refl _) _)
  have HQ6 := Lib.hid (show TwoR w6 w.heap.size (.slice none 0 0) (.slice none 0 0) from by rw [← hw6]; exact ⟨_, World.alloc_heap_new w _⟩)
  have hs6 : w6.heap.size = w.heap.size + 1 := by rw [← hw6]; simp
  rw [hw6]
  clear hw6
  obtain ⟨Q, hQ⟩ : ∃ n, w.heap.size = n := ⟨_, rfl⟩
  have HQ := Lib.hid hQ
  rw [hQ] at HQ6 hs6 ⊢
  clear hQ
  go_cut [11] (fun s11 wx => ∃ D S R : Nat, s11 = .pointer (some ⟨R, 0, none⟩) ∧ Hid (RunB w6 nP m D S R wx) ∧ Hid (Below w6.heap.size w6 wx))
  case first =>
    refine wp_region_invR 17 7 11 (fun ts x listed wx => ∃ t0 t1 t2 t3 t4 t5 t6 : Value, ts = [t0, t1, t2, t3, t4, t5, t6] ∧ Hid (RJ w6 (.slice aP nP cP) nP m t0 t1 t2 t3 t4 t5 t6 x listed wx)) (by kernel_rfl) (by kernel_rfl) ?h0 ?hstep ?hdone
    case h0 => exact ⟨_, _, _, _, _, _, _, rfl, Lib.hid (RJ.start _ _ _ _ _ _ _ _)⟩
    case hstep =>
      refine (StepsR.cons (j := 1) rfl ?s0 (StepsR.cons (j := 2) rfl ?s1 (StepsR.cons (j := 3) rfl ?s2 (StepsR.cons (j := 4) rfl ?s3 (StepsR.cons (j := 5) rfl ?s4 (StepsR.cons (j := 6) rfl ?s5 (StepsR.cons (j := 7) rfl ?s6 (StepsR.cons (j := 8) rfl ?s7 (StepsR.cons (j := 9) rfl ?s8 StepsR.nil)))))))))
      case s0 =>
        intro listed ts x wx hi hall hI K hK
        obtain ⟨t0, t1, t2, t3, t4, t5, t6, hts, J⟩ := hI
        rw [if_pos (by rfl)]
        subst hts
        simp only [putL, Act.put, List.getElem_toArray, List.getElem_cons_zero, List.getElem_cons_succ, List.setIfInBounds_toArray, List.set_cons_zero, List.set_cons_succ]
        go_simp
        have J2 := Lib.hid (J.out.mono (show Below wx.heap.size wx (wx.alloc (.cells #[.int .i64 (-1)] 3)) from (Below.refl _ _).alloc (Nat.le_refl _) _))
        have hk := hK.out [_, t1, t2, t3, t4, t5, t6] x _ ⟨_, t1, t2, t3, t4, t5, t6, rfl, Lib.hid (J2.out.step0 (getD_no hi) (a := wx.heap.size) (cell_new13 rfl))⟩
        simp only [putL, Act.put, List.getElem_toArray, List.getElem_cons_zero, List.getElem_cons_succ, List.setIfInBounds_toArray, List.set_cons_zero, List.set_cons_succ] at hk
        exact hk
      case s1 =>
        intro listed ts x wx hi hall hI K hK
        obtain ⟨t0, t1, t2, t3, t4, t5, t6, hts, J⟩ := hI
        rw [if_pos (by rfl)]
        subst hts
        simp only [putL, Act.put, List.getElem_toArray, List.getElem_cons_zero, List.getElem_cons_succ, List.setIfInBounds_toArray, List.set_cons_zero, List.set_cons_succ]
        go_simp
        have hk := hK.out [t0, _, t2, t3, t4, t5, t6] x wx ⟨t0, _, t2, t3, t4, t5, t6, rfl, Lib.hid J.out.step1⟩
        simp only [putL, Act.put, List.getElem_toArray, List.getElem_cons_zero, List.getElem_cons_succ, List.setIfInBounds_toArray, List.set_cons_zero, List.set_cons_succ] at hk
        exact hk
      case s2 =>
        intro listed ts x wx hi hall hI K hK
        obtain ⟨t0, t1, t2, t3, t4, t5, t6, hts, J⟩ := hI
        rw [if_pos (by rfl)]
        obtain rfl := J.out.f1 (hall ⟨1, Ground.data⟩ (by simp) (by rfl))
        subst hts
        simp only [putL, Act.put, List.getElem_toArray, List.getElem_cons_zero, List.getElem_cons_succ, List.setIfInBounds_toArray, List.set_cons_zero, List.set_cons_succ]
        go_simp
        have hk := hK.out [t0, _, _, t3, t4, t5, t6] x wx ⟨t0, _, _, t3, t4, t5, t6, rfl, Lib.hid J.out.step2⟩
        simp only [putL, Act.put, List.getElem_toArray, List.getElem_cons_zero, List.getElem_cons_succ, List.setIfInBounds_toArray, List.set_cons_zero, List.set_cons_succ] at hk
        exact hk
      case s3 =>
        intro listed ts x wx hi hall hI K hK
        obtain ⟨t0, t1, t2, t3, t4, t5, t6, hts, J⟩ := hI
        rw [if_pos (by rfl)]
        obtain rfl := J.out.f2 (hall ⟨2, Ground.data⟩ (by simp) (by rfl))
        obtain ⟨a, rfl, ha⟩ := J.out.f0 (hall ⟨0, Ground.data⟩ (by simp) (by rfl))
        subst hts
        simp only [putL, Act.put, List.getElem_toArray, List.getElem_cons_zero, List.getElem_cons_succ, List.setIfInBounds_toArray, List.set_cons_zero, List.set_cons_succ]
        go_simp
        refine (repeat16 a nP (by omega) wx ha).mono ?_
        rintro e wy ⟨rfl, hb, hs⟩
        have J2 := Lib.hid (J.out.mono hb)
        have hk := hK.out [_, t1, _, _, t4, t5, t6] x _ ⟨_, t1, _, _, t4, t5, t6, rfl, Lib.hid (J2.out.step3 (D := wx.heap.size) J.out.hb.size hs
          (fun S e g => by
            obtain ⟨S', e', _, hs'⟩ := J.out.f5 g
            rw [e] at e'; cases e'
            have := hs'.lt; omega)
          (fun R e g => by
            obtain ⟨R', e', _, hs'⟩ := J.out.f7 g (no8 J.out (.inl (getD_no hi)))
            rw [e] at e'; cases e'
            have := hs'.lt; omega) (getD_no hi))⟩
        simp only [putL, Act.put, List.getElem_toArray, List.getElem_cons_zero, List.getElem_cons_succ, List.setIfInBounds_toArray, List.set_cons_zero, List.set_cons_succ] at hk
        exact hk
      case s4 =>
        intro listed ts x wx hi hall hI K hK
        obtain ⟨t0, t1, t2, t3, t4, t5, t6, hts, J⟩ := hI
        rw [if_pos (by rfl)]
        subst hts
        simp only [putL, Act.put, List.getElem_toArray, List.getElem_cons_zero, List.getElem_cons_succ, List.setIfInBounds_toArray, List.set_cons_zero, List.set_cons_succ]
        go_simp
        have hk := hK.out [t0, t1, t2, t3, _, t5, t6] x wx ⟨t0, t1, t2, t3, _, t5, t6, rfl, Lib.hid J.out.step4⟩
        simp only [putL, Act.put, List.getElem_toArray, List.getElem_cons_zero, List.getElem_cons_succ, List.setIfInBounds_toArray, List.set_cons_zero, List.set_cons_succ] at hk
        exact hk
      case s5 =>
        intro listed ts x wx hi hall hI K hK
        obtain ⟨t0, t1, t2, t3, t4, t5, t6, hts, J⟩ := hI
        rw [if_pos (by rfl)]
        obtain rfl := J.out.f4 (hall ⟨4, Ground.data⟩ (by simp) (by rfl))
        have hmk := make16 m (by omega) wx
        subst hts
        simp only [putL, Act.put, List.getElem_toArray, List.getElem_cons_zero, List.getElem_cons_succ, List.setIfInBounds_toArray, List.set_cons_zero, List.set_cons_succ]
        go_simp
        have J2 := Lib.hid (J.out.mono (show Below wx.heap.size wx (wx.alloc (.cells (madeCells #[.slice none 0 0] m) 22)) from (Below.refl _ _).alloc (Nat.le_refl _) _))
        have hk := hK.out [t0, t1, t2, t3, _, _, t6] x _ ⟨t0, t1, t2, t3, _, _, t6, rfl, Lib.hid (J2.out.step5 (S := wx.heap.size) J.out.hb.size (nilB_new wx m)
          (fun D e g => by
            obtain ⟨D', e', _, hs'⟩ := J.out.f3 g
            rw [e] at e'; cases e'
            have := hs'.lt; omega)
          (fun R e g => by
            obtain ⟨R', e', _, hs'⟩ := J.out.f7 g (no8 J.out (.inr (getD_no hi)))
            rw [e] at e'; cases e'
            have := hs'.lt; omega) (getD_no hi))⟩
        simp only [putL, Act.put, List.getElem_toArray, List.getElem_cons_zero, List.getElem_cons_succ, List.setIfInBounds_toArray, List.set_cons_zero, List.set_cons_succ] at hk
        exact hk
      case s6 =>
        intro listed ts x wx hi hall hI K hK
        obtain ⟨t0, t1, t2, t3, t4, t5, t6, hts, J⟩ := hI
        rw [if_pos (by rfl)]
        obtain ⟨D, rfl, hD⟩ := J.out.f3 (hall ⟨3, Ground.data⟩ (by simp) (by rfl))
        obtain ⟨S, rfl, hS⟩ := J.out.f5 (hall ⟨5, Ground.data⟩ (by simp) (by rfl))
        subst hts
        simp only [putL, Act.put, List.getElem_toArray, List.getElem_cons_zero, List.getElem_cons_succ, List.setIfInBounds_toArray, List.set_cons_zero, List.set_cons_succ]
        go_simp
        have hk := hK.out [t0, t1, t2, _, t4, _, _] x wx ⟨t0, t1, t2, _, t4, _, _, rfl, Lib.hid (J.out.step6 (getD_no hi) (hall ⟨3, Ground.data⟩ (by simp) (by rfl)) (hall ⟨5, Ground.data⟩ (by simp) (by rfl)))⟩
        simp only [putL, Act.put, List.getElem_toArray, List.getElem_cons_zero, List.getElem_cons_succ, List.setIfInBounds_toArray, List.set_cons_zero, List.set_cons_succ] at hk
        exact hk
      case s7 =>
        intro listed ts x wx hi hall hI K hK
        obtain ⟨t0, t1, t2, t3, t4, t5, t6, hts, J⟩ := hI
        rw [if_pos (by rfl)]
        subst hts
        simp only [putL, Act.put, List.getElem_toArray, List.getElem_cons_zero, List.getElem_cons_succ, List.setIfInBounds_toArray, List.set_cons_zero, List.set_cons_succ]
        go_simp
        have J2 := Lib.hid (J.out.mono (show Below wx.heap.size wx (wx.alloc (.cells #[.slice none 0 0, .slice none 0 0] 91)) from (Below.refl _ _).alloc (Nat.le_refl _) _))
        have hk := hK.out [t0, t1, t2, t3, t4, t5, t6] _ _ ⟨t0, t1, t2, t3, t4, t5, t6, rfl, Lib.hid (J2.out.step7 (R := wx.heap.size) J.out.hb.size ⟨_, World.alloc_heap_new wx _⟩
          (fun D e g => by
            obtain ⟨D', e', _, hs'⟩ := J.out.f3 g
            rw [e] at e'; cases e'
            have := hs'.lt; omega)
          (fun S e g => by
            obtain ⟨S', e', _, hs'⟩ := J.out.f5 g
            rw [e] at e'; cases e'
            have := hs'.lt; omega) (getD_no hi))⟩
        simp only [putL, Act.put, List.getElem_toArray, List.getElem_cons_zero, List.getElem_cons_succ, List.setIfInBounds_toArray, List.set_cons_zero, List.set_cons_succ] at hk
        exact hk
      case s8 =>
        intro listed ts x wx hi hall hI K hK
        obtain ⟨t0, t1, t2, t3, t4, t5, t6, hts, J⟩ := hI
        rw [if_pos (by rfl)]
        have g0 := hall ⟨0, Ground.phase⟩ (by simp) (by rfl)
        have g3 := hall ⟨3, Ground.phase⟩ (by simp) (by rfl)
        have g5 := hall ⟨5, Ground.phase⟩ (by simp) (by rfl)
        have g6 := hall ⟨6, Ground.data⟩ (by simp) (by rfl)
        have g7 := hall ⟨7, Ground.data⟩ (by simp) (by rfl)
        obtain ⟨D, rfl, hD⟩ := J.out.f3 g3
        obtain ⟨S, rfl, hS⟩ := J.out.f5 g5
        clear hD hS
        obtain ⟨R, rfl, hRl, hR⟩ := J.out.f7 g7 (getD_no hi)
        obtain rfl := J.out.f6 g6
        subst hts
        simp only [putL, Act.put, List.getElem_toArray, List.getElem_cons_zero, List.getElem_cons_succ, List.setIfInBounds_toArray, List.set_cons_zero, List.set_cons_succ]
        refine wp_store_run (.tmp 11) (.tmp 23) rfl rfl R _ _ _ _ _ _ rfl rfl hR ?_
        have hk := hK.out [t0, t1, t2, _, t4, _, _] _ _ ⟨t0, t1, t2, _, t4, _, _, rfl, Lib.hid (J.out.step8 hi g0 g3 g5 g6 g7)⟩
        simp only [putL, Act.put, List.getElem_toArray, List.getElem_cons_zero, List.getElem_cons_succ, List.setIfInBounds_toArray, List.set_cons_zero, List.set_cons_succ] at hk
        exact hk
    case hdone =>
      intro listed ts x wx hall hI
      obtain ⟨t0, t1, t2, t3, t4, t5, t6, hts, J⟩ := hI
      obtain ⟨D, S, R, rfl, HRB⟩ := J.out.f8 (hall 8 (by decide))
      have HBE := Lib.hid J.out.hb
      have HRB := Lib.hid HRB
      clear J hall
      subst hts
      simp only [putL, Act.put, List.getElem_toArray, List.getElem_cons_zero, List.getElem_cons_succ, List.setIfInBounds_toArray, List.set_cons_zero, List.set_cons_succ]
      try go_wp2_with fail
      go_meet
      exact ⟨D, S, R, rfl, HRB, HBE⟩
  case rest =>
    obtain ⟨D, S, R, rfl, HR1, HB1⟩ := hcut
    obtain ⟨w7, rfl⟩ : ∃ u : World, u = wc := ⟨_, rfl⟩
    have HK0 := Lib.hid (MkR.start (N := T + 1) HR1.out HB1.out)
    obtain ⟨Z, hZ⟩ : ∃ n, w7.heap.size = n := ⟨_, rfl⟩
    rw [hZ] at HK0
    clear hZ HR1
    obtain ⟨z0, z1⟩ := HK0.out.rb.cells
    go_wp2_with fail
    go_loopw [27] (fun vi wx => ∃ k : Nat, vi = .int .i64 k ∧ k ≤ m ∧ Hid (MkR w6 nP m (T + 1) D S R Z k wx)) (fun vi _ => m - (intOf vi).toNat)
    case atStart => exact ⟨0, by go_num, Nat.zero_le _, HK0⟩
    case round =>
      obtain ⟨k, rfl, hk, HK⟩ := hrel
      obtain ⟨wk, rfl⟩ : ∃ u : World, u = wr := ⟨_, rfl⟩
      clear z0 z1
      by_cases hlt : k < m
      · have hlI : (k : Int) < (m : Int) := by omega
        go_upto_region 5 with fail
        have HKd := Lib.hid HK.out.drew
        have HS5 := Lib.hid (show wk.drew.cell? ⟨R, 1, none⟩ = some (.slice (some ⟨S, 0, none⟩) m m) ∧ True from ⟨HKd.out.rb.cells.2, trivial⟩)
        refine wp_region_keeps (fun u => u.cell? ⟨R, 1, none⟩ = some (.slice (some ⟨S, 0, none⟩) m m) ∧ True) 6 2 (by kernel_rfl) (by kernel_rfl) HS5.out (fun hHeld0 => ?_)
        obtain ⟨ud, hud⟩ : ∃ V, wk.drew = V := ⟨_, rfl⟩
        rw [hud] at hHeld0 HKd ⊢
        clear hud HS5
        have hwt : IntKind.i64.wrap ((T : Int) + 1) = (T : Int) + 1 := IntWalk.i64_in _ ⟨by omega, by omega⟩
        refine wpAnyK_take (i := 0) (v := ?_) rfl (by kernel_rfl) (fun _ _ _ h => h) (Or.inl ⟨by rfl, ?_⟩) (by assumption) ?_
        rotate_left
        · (intro w hSw; (try dsimp only at hSw); go_simp; try with_reducible rfl)
        try simp only [Act.put, List.getElem_toArray, List.getElem_cons_zero, List.getElem_cons_succ, List.setIfInBounds_toArray, List.set_cons_zero, List.set_cons_succ]
        refine wpAnyK_take (i := 1) (v := ?_) rfl (by kernel_rfl) (fun _ _ _ h => h) (Or.inl ⟨by rfl, ?_⟩) (by assumption) ?_
        rotate_left
        · (intro w hSw; (try dsimp only at hSw); go_simp; try with_reducible rfl)
        try simp only [Act.put, List.getElem_toArray, List.getElem_cons_zero, List.getElem_cons_succ, List.setIfInBounds_toArray, List.set_cons_zero, List.set_cons_succ]
        refine wpAnyK_take (i := 2) (v := ?_) rfl (by kernel_rfl) (fun _ _ _ h => h) (Or.inl ⟨by rfl, ?_⟩) (by assumption) ?_
        rotate_left
        · (intro w hSw; (try dsimp only at hSw); go_simp; try with_reducible rfl)
        try simp only [Act.put, List.getElem_toArray, List.getElem_cons_zero, List.getElem_cons_succ, List.setIfInBounds_toArray, List.set_cons_zero, List.set_cons_succ]
        refine wpAnyK_take (i := 3) (v := ?_) rfl (by kernel_rfl) (fun _ _ _ h => h) (Or.inl ⟨by rfl, ?_⟩) (by assumption) ?_
        rotate_left
        · (intro w hSw; (try dsimp only at hSw); go_simp; try with_reducible rfl)
        try simp only [Act.put, List.getElem_toArray, List.getElem_cons_zero, List.getElem_cons_succ, List.setIfInBounds_toArray, List.set_cons_zero, List.set_cons_succ]
        refine wpAnyK_take (i := 4) (v := ?_) rfl (by kernel_rfl) (fun _ _ _ h => h) (Or.inl ⟨by rfl, ?_⟩) (by assumption) ?_
        rotate_left
        · (intro w hSw; (try dsimp only at hSw); go_simp; try with_reducible rfl)
        try simp only [Act.put, List.getElem_toArray, List.getElem_cons_zero, List.getElem_cons_succ, List.setIfInBounds_toArray, List.set_cons_zero, List.set_cons_succ]
        have hmk : (Instr.makeSlice 22 (.int .i64 ((T : Int) + 1)) (.int .i64 ((T : Int) + 1))).run Try.prog ud = .ok (.slice (some ⟨ud.heap.size, 0, none⟩) (T + 1) (T + 1)) (ud.alloc (.cells (madeCells #[.int .i64 0] (T + 1)) 3)) := by
          have h := make13 (T + 1) (by omega) ud
          rwa [show ((T + 1 : Nat) : Int) = (T : Int) + 1 by omega] at h
        refine wpAnyK_step (i := 5) rfl (by kernel_rfl) (fun K hK => ?_)
        go_simp
        have hzk := HKd.out.sz
        have HM := Lib.hid (HKd.out.made hlt)
        have hbA : Below ud.heap.size ud (ud.alloc (.cells (madeCells #[.int .i64 0] (T + 1)) 3)) := (Below.refl _ _).alloc (Nat.le_refl _) _
        have hSlt : S < ud.heap.size := by have := HKd.out.ne; omega
        have y0 := (hbA.cell (p := ⟨S, k, none⟩) hSlt).trans (HKd.out.at hlt).1
        have y1 := ((bcell hbA).2 S k hSlt).trans (HKd.out.at hlt).2
        have y2 := (hbA.cell (p := ⟨R, 1, none⟩) (show R < ud.heap.size by have := HKd.out.ne; omega)).trans hHeld0.1
        rw [hzk]
        obtain ⟨uA, huA⟩ : ∃ V, ud.alloc (.cells (madeCells #[.int .i64 0] (T + 1)) 3) = V := ⟨_, rfl⟩
        rw [huA] at HM y0 y1 y2 ⊢
        refine hK.out _ _ ⟨y2, trivial⟩ (fun hHeld1 => ?_)
        clear hK K huA hmk hbA hHeld0 y2
        try simp only [Act.put, List.getElem_toArray, List.getElem_cons_zero, List.getElem_cons_succ, List.setIfInBounds_toArray, List.set_cons_zero, List.set_cons_succ]
        refine wpAnyK_done (by kernel_rfl) ?_
        simp only [List.drop_succ_cons, List.drop_zero]
        clear hHeld1
        go_wp2_with fail
        go_roundw
        case rel => exact ⟨k + 1, by go_num, by omega, HM⟩
        case measure => first | (simp [intOf]; done) | (simp [intOf]; omega)
      · obtain rfl : k = m := by omega
        have hkI : ¬ (k : Int) < (k : Int) := by omega
        have HPK := Lib.hid (HP.out.under HB6.out)
        go_wp2_with fail
        refine (start16 wk (HPK.out.under HK.out.bel) (by omega)).mono ?_
        rintro e w9 ⟨v9, rfl, hs9⟩
        obtain ⟨aL, cL, L, hm9⟩ := mch_of (w := w) HPK.out HK.out hs9
        obtain ⟨X, hX⟩ : ∃ n, wk.heap.size = n := ⟨_, rfl⟩
        obtain ⟨N, hN⟩ : ∃ n, T + 1 = n := ⟨_, rfl⟩
        have HNN := Lib.hid hN
        rw [hX, hN] at hm9
        rw [hX]
        have HT0 := Lib.hid (LnT.start (C := C) (j := 0) hm9 HV.out)
        have hNT : T + 1 = N := hN
        clear hs9 hm9 hX HK hN
        have hwm := HT0.out.mch.oX
        go_wp2_with fail
        go_loopw [41] (fun vi wx => ∃ (t : Nat) (cur tick room : Int), vi = .int .i64 t ∧ t ≤ T ∧ Hid (LnT w6 aP nP cP lp C k N D S R Z X aL cL L t 0 cur tick room wx)) (fun vi _ => T - (intOf vi).toNat)
        case atStart => exact ⟨0, _, _, _, by go_num, Nat.zero_le _, HT0⟩
        case round =>
          obtain ⟨t, cur, tick, room, rfl, ht, HT1⟩ := hrel
          obtain ⟨wt, rfl⟩ : ∃ u : World, u = wr := ⟨_, rfl⟩
          clear HT0
          by_cases hlt2 : t < T
          · have hlI2 : (t : Int) < (T : Int) := by omega
            obtain ⟨z0, z1⟩ := HT1.out.mch.rb.cells
            go_wp2_with fail
            go_loopw [47] (fun vi wx => ∃ j : Nat, vi = .int .i64 j ∧ j ≤ k ∧ Hid (LnT w6 aP nP cP lp C k N D S R Z X aL cL L t j cur tick room wx)) (fun vi _ => k - (intOf vi).toNat)
            case atStart => exact ⟨0, by go_num, Nat.zero_le _, HT1⟩
            case round =>
              obtain ⟨j, rfl, hj, HT2⟩ := hrel
              obtain ⟨wj, rfl⟩ : ∃ u : World, u = wr := ⟨_, rfl⟩
              clear HT1 z0 z1
              by_cases hlt3 : j < k
              · have hlI3 : (j : Int) < (k : Int) := by omega
                have s0 := HT2.out.mch.sl.cell hlt3
                have hsn := HT2.out.mch.sn j hlt3
                have s1 : wj.cell? ⟨Z + j, t, none⟩ = some (.int .i64 (sentF lp (j : Int) (lineS C lp t))) := by
                  have := hsn.cell (show t < N by omega)
                  unfold snT at this
                  rwa [if_neg (fun x => by omega), if_pos (Nat.le_refl t)] at this
                have s2 := hsn.cell (show t + 1 < N by omega)
                have s3 := hsn.frozen (t + 1)
                clear hsn
                have hwt : IntKind.i64.wrap ((t : Int) + 1) = (t : Int) + 1 := IntWalk.i64_in _ ⟨by omega, by omega⟩
                have ht0 : 0 ≤ (t : Int) + 1 := by omega
                have ht1 : (t : Int) + 1 < (N : Int) := by omega
                have ht2 : (t : Int) < (N : Int) := by omega
                have htn : ((t : Int) + 1).toNat = t + 1 := by omega
                go_wp2_with fail
                go_roundw
                case rel => exact ⟨j + 1, by go_num, by omega, Lib.hid (HT2.out.copy hlt3)⟩
                case measure => first | (simp [intOf]; done) | (simp [intOf]; omega)
              · obtain rfl : j = k := by omega
                have hjI : ¬ (j : Int) < (j : Int) := by omega
                obtain ⟨s0, s1, s2, s3, s4⟩ := HT2.out.mch.st.cells
                have sf3 := HT2.out.mch.st.frozen 3
                have sf4 := (HT2.out.mch.set3 (t : Int)).st.frozen 4
                have s4' := (HT2.out.mch.set3 (t : Int)).st.cells.2.2.2.2
                clear s0 s1 s2 s4
                have HI := Lib.hid (HT2.out.open HV.out (show 0 ≤ C by omega) HPL.out)
                clear HT2
                go_upto_region 17 with fail
                clear s3 sf3 sf4 s4'
                go_loopw [77] (fun _ wx => ∃ B room cur : Int, Hid (LnI w6 aP nP cP lp C j N D S R Z X aL cL L t B room cur wx)) (fun _ wx => roomN X wx)
                case atStart => exact ⟨_, _, _, HI⟩
                case round =>
                  obtain ⟨B, rm, cr, HI2⟩ := hrel
                  obtain ⟨wq, rfl⟩ : ∃ u : World, u = wr := ⟨_, rfl⟩
                  clear HI
                  obtain ⟨_, _, _, _, s4⟩ := HI2.out.mch.st.cells
                  have HRQ := Lib.hid (roomN_of s4)
                  have hrm := HI2.out.mid.nn
                  have hrs : rm ≤ C := by have := HI2.out.mid.sum; have := HI2.out.mid.lo; omega
                  by_cases hr0 : 0 < rm
                  · obtain ⟨r, hr, hcase⟩ := HI2.out.fst HV.out HPL.out
                    have HRR := Lib.hid hr
                    clear hr
                    rcases hcase with ⟨rfl, hend, hcur⟩ | ⟨kk, hkk, rfl, h1, h2, h3⟩
                    · have HE := Lib.hid (And.intro hend hcur)
                      clear hend hcur
                      go_wp2_with fail
                      refine (begin16 HI2.out.mch (-1) HRR.out false (by decide)).mono ?_
                      rintro e w10 ⟨rfl, hm10⟩
                      have HTE := Lib.hid (LnI.close (show LnI w6 aP nP cP lp C j N D S R Z X aL cL L t B rm (-1) w10 from ⟨hm10, HI2.out.mid, .inl ⟨rfl, HE.out.2⟩⟩) HE.out.1)
                      clear hm10 s4
                      go_wp2_with fail
                      go_roundw
                      case rel => exact ⟨t + 1, _, _, _, by go_num, by omega, HTE⟩
                      case measure => first | (simp [intOf]; done) | (simp [intOf]; omega)
                    · have HH := Lib.hid (And.intro h1 (And.intro h2 h3))
                      clear h1 h2 h3
                      have hkB : decide ((kk : Int) = -1) = !true := by first | (simp; done) | (simp; omega)
                      go_wp2_with fail
                      refine (begin16 HI2.out.mch (kk : Int) HRR.out true hkB).mono ?_
                      rintro e w10 ⟨rfl, hm10⟩
                      have HM10 := Lib.hid hm10
                      clear hm10 s4 hkB
                      obtain ⟨z0, z1⟩ := HM10.out.rb.cells
                      have hq : lp[kk]? = some (lp.getD kk default) := by rw [List.getD_eq_getElem?_getD, List.getElem?_eq_getElem (by have := HPL.out; omega)]; rfl
                      have HQQ := Lib.hid hq
                      have HFL := Lib.hid (And.intro (HV.out.fl kk (by have := HPL.out; omega)) (HF.out kk hkk))
                      obtain ⟨cc, hcc⟩ : ∃ cc : Nat, (lp.getD kk default).f = (cc : Int) := ⟨(lp.getD kk default).f.toNat, by have := HFL.out; omega⟩
                      have HCC := Lib.hid (And.intro hcc (show cc < j by have := HFL.out.2; omega))
                      clear hq hcc
                      obtain ⟨x, hx⟩ : ∃ x, lfF lp B kk = x := ⟨_, rfl⟩
                      have hxe : x = preS lp (kk + 1) - B := by
                        rw [← hx]
                        have := preS_succ lp kk
                        unfold lfF
                        rw [gvn_mid HH.out.1 (by have := HH.out.2.1; omega)]; omega
                      have hxb : 1 ≤ x ∧ x ≤ 1500 := by have h1 := HH.out; have := preS_succ lp kk; have := HV.out.sz kk (by have := HPL.out; omega); omega
                      have HX := Lib.hid (And.intro hx hxb)
                      obtain ⟨d, hd⟩ : ∃ d, (if rm < x then rm else x) = d := ⟨_, rfl⟩
                      have HD := Lib.hid (And.intro hd (show 1 ≤ d ∧ d ≤ x ∧ d ≤ rm by rw [← hd]; split <;> omega))
                      obtain ⟨y, hy⟩ : ∃ y, snF C lp t B cc (t + 1) = y := ⟨_, rfl⟩
                      have HY := Lib.hid (And.intro hy (show 0 ≤ y ∧ y ≤ 90000 by
                        rw [← hy]
                        unfold snF
                        rw [if_neg (by omega), if_pos rfl]
                        have h1 := sent_bd HV.out.nn (cc : Int) B
                        have h2 := preS_top HV.out
                        omega))
                      clear hx hxe hxb hd hy
                      go_wp2_with fail
                      refine (send16 kk t cc HM10.out hkk _ HQQ.out x d y HX.out.1 (by have := HX.out.2; omega) HX.out.2.2 (by omega) (by omega) HD.out.1 (by omega) (by omega) HCC.out.1 HCC.out.2 hm2 HY.out.1 HY.out.2.1 HY.out.2.2).mono ?_
                      rintro e w11 ⟨rfl, hs11⟩
                      obtain ⟨cur2, hI3⟩ := LnI.next (show LnI w6 aP nP cP lp C j N D S R Z X aL cL L t B rm (kk : Int) w10 from ⟨HM10.out, HI2.out.mid, .inr ⟨kk, by have := HPL.out; omega, rfl, HH.out.1, HH.out.2.1, HH.out.2.2⟩⟩) HV.out (show 0 ≤ C by omega) HPL.out hkk HH.out.1 HH.out.2.1 HH.out.2.2 HCC.out.1 (d := d) HD.out.2.1 (by rw [HX.out.1]; exact HD.out.2.2.1) HD.out.2.2.2 (by rw [HX.out.1, HY.out.1]; exact hs11)
                      have HI3 := Lib.hid hI3
                      have HR3 := Lib.hid (roomN_of hI3.mch.st.cells.2.2.2.2)
                      clear hs11 hI3 z0 z1
                      go_wp2_with fail
                      go_roundw
                      case rel => exact ⟨_, _, _, HI3⟩
                      case measure => rw [HRQ.out, HR3.out]; have := HD.out; omega
                  · have HE := Lib.hid (show B = lineS C lp (t + 1) from mid_full (by have h := HI2.out.mid; rwa [show rm = 0 by omega] at h))
                    have hr0B : ¬ rm > 0 := hr0
                    have HTE := Lib.hid (LnI.close HI2.out HE.out)
                    go_wp2_with fail
                    go_roundw
                    case rel => exact ⟨t + 1, _, _, _, by go_num, by omega, HTE⟩
                    case measure => first | (simp [intOf]; done) | (simp [intOf]; omega)
          · obtain rfl : t = T := by omega
            have htI : ¬ (t : Int) < (t : Int) := by omega
            obtain ⟨z0, z1⟩ := HT1.out.mch.rb.cells
            have HQT := Lib.hid (HQ6.out.of_block (HT1.out.mch.bel.block Q (by omega)))
            have HQ1 := Lib.hid (show TwoR (wt.setCell ⟨Q, 0, none⟩ (.slice (some ⟨D, 0, none⟩) nP nP)) Q (.slice (some ⟨D, 0, none⟩) nP nP) (.slice none 0 0) from by obtain ⟨ty, g⟩ := HQT.out; exact ⟨ty, block_set 0 _ g⟩)
            have HQ2 := Lib.hid (HQT.out.set (.slice (some ⟨D, 0, none⟩) nP nP) (.slice (some ⟨S, 0, none⟩) k k))
            obtain ⟨q0, q1⟩ := HQT.out.cells
            have qf := HQT.out.frozen 0
            have qf1 := HQ1.out.frozen 1
            have q2 := HQ1.out.cells.2
            go_upto_region 20 with fail
            obtain ⟨q3, q4⟩ := HQ2.out.cells
            go_wp2_with fail
            have HP9 := Lib.hid (show ∃ v, Ending.returned (.agg #[.slice (some ⟨D, 0, none⟩) nP nP, .slice (some ⟨S, 0, none⟩) k k]) = .returned v ∧ RunIs w nP k N (lnDone C lp t) (fun c t => sentF lp (c : Int) (lineS C lp t)) v ((wt.setCell ⟨Q, 0, none⟩ (.slice (some ⟨D, 0, none⟩) nP nP)).setCell ⟨Q, 1, none⟩ (.slice (some ⟨S, 0, none⟩) k k)) from
              ⟨_, rfl, runIs_of HQ.out HNN.out HB6.out hs6 HT1.out⟩)
            exact bodyPost_ret (v := .agg #[.slice (some ⟨D, 0, none⟩) nP nP, .slice (some ⟨S, 0, none⟩) k k]) (by simp [results, Try.results191, go_sem, q3, q4]) rfl HP9.out
end Go.Proofs.Ytkienpbmoilheaa
