/- Contract of periodic.Curve, for whatever closure with one variable. By the verifier's side. -/
import Derived.Test.YtknimlpdpgpliaaFPwA
import Derived.Test.YtknimlpdpgpliaaFCurS
import Derived.Deep.CutBlock
namespace Go.Proofs.Ytknimlpdpgpliaa
open Go.RowKit
set_option linter.unusedSimpArgs false

/-- The curve in normal form with the values F is handed back, or the error that there is none. -/
def GivesForm (F : Nat → Int) (w : World) (e : Ending) (w' : World) : Prop :=
  Below w.heap.size w w' ∧ ((∃ (a : Option Addr) (n cap : Nat) (zs : List Int) (p : Nat) (inc : Int), e = .returned (.tuple #[curV a n cap p inc, .int .i64 0]) ∧ RowZ w' a n cap zs ∧ Form zs p inc F ∧ ∀ x, a = some x → w.heap.size ≤ x.block) ∨
    (e = .returned (.tuple #[curV none 0 0 0 0, .int .i64 3]) ∧ ¬ CanBe F))

/-- What stands while the list is made. -/
structure Mk1 (w : World) (F : Nat → Int) (S lb m k r : Nat) (D : Int) (wx : World) : Prop where
  box : Cur3 wx S (.slice (some ⟨lb, 0, none⟩) m m) (.int .i64 r) (.int .i64 D)
  res : Cur3 wx w.heap.size (.slice none 0 0) (.int .i64 0) (.int .i64 0)
  row : ∀ i, i < m → wx.cell? ⟨lb, i, none⟩ = some (.int .i64 (if i < k then F i else 0)) ∧ wx.frozen? ⟨lb, i, none⟩ = false
  below : Below w.heap.size w wx

theorem Mk1.drewN {w : World} {F : Nat → Int} {S lb m k r : Nat} {D : Int} {wx : World} (h : Mk1 w F S lb m k r D wx) (n : Nat) : Mk1 w F S lb m k r D (wx.drewN n) :=
  ⟨h.box.drewN n, h.res.drewN n, fun i hi => h.row i hi, h.below.drewN n⟩

theorem Mk1.step {w : World} {F : Nat → Int} {S lb m k r : Nat} {D : Int} {wx : World} (h : Mk1 w F S lb m k r D wx) (hS : S ≠ lb) (hw : w.heap.size < lb) (hk : k < m) {v : Int} (hv : F k = v) : Mk1 w F S lb m (k + 1) r D (wx.setCell ⟨lb, k, none⟩ (.int .i64 v)) :=
  ⟨h.box.other hS _ _, h.res.other (by omega) _ _, fun i hi => by
    refine ⟨?_, (World.frozen?_setCell _ _ _ _).trans (h.row i hi).2⟩
    by_cases he : i = k
    · subst he
      rw [World.cell?_setCell_same _ _ _ (h.row i hi).1, if_pos (Nat.lt_succ_self _), hv]
    · rw [World.cell?_setCell_other _ _ _ _ (show _ from fun hx => he (by cases hx; rfl)), (h.row i hi).1]
      by_cases hlt : i < k
      · rw [if_pos hlt, if_pos (by omega)]
      · rw [if_neg hlt, if_neg (by omega)], h.below.setCell (by show w.heap.size ≤ lb; omega) _⟩

theorem make_rowP (m : Nat) (hm : m ≤ 1000) (w : World) : (Instr.makeSlice 22 (.int .i64 (m : Int)) (.int .i64 (m : Int))).run Try.prog w = .ok (.slice (some ⟨w.heap.size, 0, none⟩) m m) (w.alloc (.cells (madeCells #[.int .i64 0] m) 3)) := by
  have := run_make_row' (P := Try.prog) 22 3 (.int .i64 0) 8 Try.underlying22 info_int rfl .i64 .i64 m (by omega) (by omega) w
  simpa using this

/-- The making of the list and of the curve in front of it. -/
theorem mk1_start {w w1 : World} (hB : Below w.heap.size w w1) (hC : Cur3 w1 w.heap.size (.slice none 0 0) (.int .i64 0) (.int .i64 0)) (F : Nat → Int) (m r : Nat) (D : Int) :
    Mk1 w F (w1.heap.size + 1) w1.heap.size m 0 r D ((w1.alloc (.cells (madeCells #[.int .i64 0] m) 3)).alloc (.cells #[.slice (some ⟨w1.heap.size, 0, none⟩) m m, .int .i64 r, .int .i64 D] 26)) := by
  have h1 := hB.size
  refine ⟨Cur3.new2 w1 _ _ _ _ _, (hC.alloc _).alloc _, fun i hi => ?_, (hB.alloc h1 _).alloc (by simp; omega) _⟩
  have h2 := made_cell w1 m i hi
  have h3 := made_frozen w1 m i
  rw [if_neg (Nat.not_lt_zero _)]
  exact ⟨(((Below.refl _ _).alloc (Nat.le_refl _) _).cell (lt_of_cell h2)).trans h2, (((Below.refl _ _).alloc (Nat.le_refl _) _).frozen (lt_of_cell h2)).trans h3⟩

theorem Mk1.rowZ {w : World} {F : Nat → Int} {S lb m r : Nat} {D : Int} {wx : World} (h : Mk1 w F S lb m m r D wx) (hm : m ≤ 400) (hb : ∀ t, t < m → 0 ≤ F t ∧ F t ≤ 4611686018427387904) : RowZ wx (some ⟨lb, 0, none⟩) m m (firsts F m) :=
  ⟨firsts_length _ _, Nat.le_refl _, by omega, by omega, fun i hi => ⟨_, rfl, by
    have ea : ((⟨lb, 0, none⟩ : Addr).add i) = ⟨lb, i, none⟩ := by unfold Addr.add; split <;> simp_all
    rw [ea, firsts_getD _ _ _ hi, (h.row i hi).1, if_pos hi]⟩, fun i hi => by rw [firsts_getD _ _ _ hi]; have := hb i hi; exact ⟨by omega, by omega⟩⟩

theorem Mk1.zero {w : World} {F : Nat → Int} {S lb m k r : Nat} {D : Int} {wx w' : World} (h : Mk1 w F S lb m k r D wx) (hb : Below wx.heap.size wx w') : Below w.heap.size w (((w'.setCell ⟨w.heap.size, 0, none⟩ (.slice none 0 0)).setCell ⟨w.heap.size, 1, none⟩ (.int .i64 0)).setCell ⟨w.heap.size, 2, none⟩ (.int .i64 0)) :=
  below_set3 (h.below.trans (hb.mono h.below.size)) (Nat.le_refl _) _ _ _

theorem Mk1.done {w : World} {F : Nat → Int} {S lb m r : Nat} {D : Int} {wx w' : World} (h : Mk1 w F S lb m m r D wx) (hlb : w.heap.size < lb) (hm : m ≤ 400) (hb : ∀ t, t < m → 0 ≤ F t ∧ F t ≤ 4611686018427387904) (hbw : Below wx.heap.size wx w') (hf : Form (firsts F m) r D F) :
    GivesForm F w (.returned (.tuple #[curV (some ⟨lb, 0, none⟩) m m r D, .int .i64 0])) (((w'.setCell ⟨w.heap.size, 0, none⟩ (.slice (some ⟨lb, 0, none⟩) m m)).setCell ⟨w.heap.size, 1, none⟩ (.int .i64 r)).setCell ⟨w.heap.size, 2, none⟩ (.int .i64 D)) := by
  have hx : ∀ x : Addr, (some ⟨lb, 0, none⟩ : Option Addr) = some x → 1 ≤ m → x.block ≠ w.heap.size := by
    intro x hx _; cases hx; show lb ≠ w.heap.size; omega
  exact ⟨below_set3 (h.below.trans (hbw.mono h.below.size)) (Nat.le_refl _) _ _ _, .inl ⟨_, m, m, _, r, D, rfl, ((((h.rowZ hm hb).under hbw).store hx _ _).store hx _ _).store hx _ _, hf, fun x hx => by cases hx; show w.heap.size ≤ lb; omega⟩⟩

end Go.Proofs.Ytknimlpdpgpliaa
