/- Contract of the document's periodic, and what it has to do with the least period. By the verifier's side. | Contract of the document's Least, at a finite curve. By the verifier's side. | Contracts of the document's Least at a curve that is not finite; Least, Normal, Finite, Start, Equal. By the verifier's side. -/
import Derived.Test.YtcbocglakielnaaWRefA
import Derived.Deep.RegionHeld3
import Derived.Test.YtcbocglakielnaaWKeepS
import Derived.Test.YtcbocglakielnaaWKeepC
import Derived.Deep.DeepCutAuto
import Derived.Test.YtcbocglakielnaaWCurX
namespace Go.Proofs.Ytcbocglakielnaa
open Go.RowKit
set_option linter.unusedSimpArgs false

/-- The document's test of a period. -/
def PerOk (f : Nat → Int) (s P : Nat) (I : Int) (q : Nat) : Prop := P % q = 0 ∧ I * (q : Int) % (P : Int) = 0 ∧ ∀ t, s ≤ t → t < s + P → f (t + q) = f t + I * (q : Int) / (P : Int)

theorem PerOk.grows {f : Nat → Int} {s P q : Nat} {I : Int} (h : PerOk f s P I q) : GrowsAt f s P q := fun t h1 h2 => by
  have e1 := h.2.2 t (by omega) h2
  have e2 := h.2.2 s (Nat.le_refl _) (by omega)
  omega

theorem perOk_self {f : Nat → Int} {s P : Nat} {I : Int} (hP : 1 ≤ P) (h : Per f s P I) : PerOk f s P I P := by
  have hp0 : (P : Int) ≠ 0 := by omega
  exact ⟨Nat.mod_self _, Int.mul_emod_left _ _, fun t h1 _ => by rw [Int.mul_ediv_cancel _ hp0]; exact h t h1⟩

theorem least_div {f : Nat → Int} {s P r : Nat} {I c : Int} (hP : Per f s P I) (hr : Per f s r c) (pos : 1 ≤ r) (least : ∀ q, 1 ≤ q → q < r → ∀ c', ¬ Per f s q c') : P % r = 0 ∧ I = ((P / r : Nat) : Int) * c := by
  have hm := hP.mod hr
  have hlt := Nat.mod_lt P pos
  have h0 : P % r = 0 := by
    rcases Nat.eq_zero_or_pos (P % r) with h0 | hpos
    · exact h0
    · exact absurd hm (least _ hpos hlt _)
  refine ⟨h0, ?_⟩
  rw [h0] at hm
  have := hm s (Nat.le_refl _)
  rw [Nat.add_zero] at this
  omega

theorem leastp_ex (Q : Nat → Prop) : ∀ P, 1 ≤ P → Q P → ∃ r, 1 ≤ r ∧ r ≤ P ∧ Q r ∧ ∀ q, 1 ≤ q → q < r → ¬ Q q := by
  intro P
  induction P using Nat.strongRecOn with
  | ind P ih =>
    intro h1 hQ
    by_cases h : ∃ q, 1 ≤ q ∧ q < P ∧ Q q
    · obtain ⟨q, hq1, hq2, hq3⟩ := h
      obtain ⟨r, a, b, c, d⟩ := ih q hq2 hq1 hq3
      exact ⟨r, a, by omega, c, d⟩
    · exact ⟨P, h1, Nat.le_refl _, hQ, fun q a b c => h ⟨q, a, b, c⟩⟩

/-- The first number that passes the document's test is the least period. -/
theorem perOk_least {f : Nat → Int} {s P r : Nat} {I : Int} (hP : 1 ≤ P) (h : Per f s P I) (hl : ∀ q, 1 ≤ q → q < r → ¬ PerOk f s P I q) : ∀ q, 1 ≤ q → q < r → ¬ GrowsAt f s P q := by
  intro q hq1 hq2 hg
  have hPg : GrowsAt f s P P := (perOk_self hP h).grows
  obtain ⟨r0, a1, a2, a3, a4⟩ := leastp_ex (GrowsAt f s P) q hq1 hg
  obtain ⟨s', c, hk⟩ := (grows_iff h hP).1 a3
  have hk' := h.any hP hk
  obtain ⟨b1, b2⟩ := least_div h hk' a1 (fun q' c1 c2 c' hc' => a4 q' c1 c2 ((grows_iff h hP).2 ⟨s, c', hc'⟩))
  refine hl r0 a1 (by omega) ⟨b1, ?_, ?_⟩
  all_goals
    have e : P = P / r0 * r0 := by have := Nat.mod_add_div P r0; rw [b1, Nat.zero_add, Nat.mul_comm] at this; exact this.symm
    have e2 : I * (r0 : Int) = c * (P : Int) := by
      conv => rhs; rw [e]
      rw [b2, Int.natCast_mul]; grind
    rw [e2]
  · exact Int.mul_emod_left _ _
  · intro t h1 _
    rw [Int.mul_ediv_cancel _ (by omega)]
    exact hk' t h1

/-- One curve in box F, and its row, behind something that leaves them alone. -/
abbrev OneS (W : World) (F : Nat) (a : Option Addr) (n cap p : Nat) (inc : Int) (zs : List Int) (w' : World) : Prop :=
  w'.cell? ⟨F, 0, none⟩ = some (.slice a n cap) ∧ w'.cell? ⟨F, 1, none⟩ = some (.int .i64 p) ∧ w'.cell? ⟨F, 2, none⟩ = some (.int .i64 inc) ∧ Hid (Below W.heap.size W w' ∧ Cur3 w' F (.slice a n cap) (.int .i64 p) (.int .i64 inc) ∧ RowZ w' a n cap zs)
section
variable {W u v : World} {F : Nat} {a : Option Addr} {n cap p : Nat} {inc : Int} {zs : List Int}
theorem one_s (h : Cur3 u F (.slice a n cap) (.int .i64 p) (.int .i64 inc)) (hr : RowZ u a n cap zs) (hb : Below W.heap.size W u) : OneS W F a n cap p inc zs u := ⟨h.c0, h.c1, h.c2, hb, h, hr⟩
theorem one_row (h : OneS W F a n cap p inc zs u) : RowZ u a n cap zs := h.2.2.2.out.2.2
theorem one_box (h : OneS W F a n cap p inc zs u) : Cur3 u F (.slice a n cap) (.int .i64 p) (.int .i64 inc) := h.2.2.2.out.2.1
theorem one_below (h : OneS W F a n cap p inc zs u) : Below W.heap.size W u := h.2.2.2.out.1
theorem one_call (h : OneS W F a n cap p inc zs u) (hb : Below u.heap.size u v) : OneS W F a n cap p inc zs v :=
  one_s ((one_box h).below hb) ((one_row h).under hb) ((one_below h).trans (hb.mono (one_below h).size))
theorem one_drew (h : Cur3 W F (.slice a n cap) (.int .i64 p) (.int .i64 inc)) (hr : RowZ W a n cap zs) : OneS W F a n cap p inc zs W.drew :=
  one_s (h.below (Below.refl _ _).drew) (hr.under (Below.refl _ _).drew) (Below.refl _ _).drew
end

/-- What periodic hands back. -/
def PerSays (f : Nat → Int) (s P : Nat) (I : Int) (q : Nat) (w : World) (e : Ending) (w' : World) : Prop := ∃ b : Bool, (b = true ↔ PerOk f s P I q) ∧ e = .returned (.bool b) ∧ Below w.heap.size w w'

end Go.Proofs.Ytcbocglakielnaa

namespace Go.Proofs.Ytcbocglakielnaa
open Go.RowKit
set_option linter.unusedSimpArgs false

/-- What stands in Least: the curve's box and row, the result's box. -/
structure Ls (w : World) (a : Option Addr) (n cap P : Nat) (inc : Int) (zs : List Int) (wx : World) : Prop where
  bl : Below w.heap.size w wx
  bf : Cur3 wx w.heap.size (.slice a n cap) (.int .i64 P) (.int .i64 inc)
  rf : RowZ wx a n cap zs
  br : Cur3 wx (w.heap.size + 1) (.slice none 0 0) (.int .i64 0) (.int .i64 0)
theorem Ls.under {w u v : World} {a : Option Addr} {n cap P : Nat} {inc : Int} {zs : List Int} (h : Ls w a n cap P inc zs u) (hb : Below u.heap.size u v) : Ls w a n cap P inc zs v :=
  ⟨h.bl.trans (hb.mono h.bl.size), h.bf.below hb, h.rf.under hb, h.br.below hb⟩
abbrev LsS (w : World) (a : Option Addr) (n cap P : Nat) (inc : Int) (zs : List Int) (wx : World) : Prop :=
  wx.cell? ⟨w.heap.size, 0, none⟩ = some (.slice a n cap) ∧ wx.cell? ⟨w.heap.size, 1, none⟩ = some (.int .i64 P) ∧ wx.cell? ⟨w.heap.size, 2, none⟩ = some (.int .i64 inc) ∧ Hid (Ls w a n cap P inc zs wx)
theorem ls_s {w u : World} {a : Option Addr} {n cap P : Nat} {inc : Int} {zs : List Int} (h : Ls w a n cap P inc zs u) : LsS w a n cap P inc zs u := ⟨h.bf.c0, h.bf.c1, h.bf.c2, h⟩

theorem Ls.grow {w u v : World} {a : Option Addr} {n cap P : Nat} {inc : Int} {zs : List Int} (h : Ls w a n cap P inc zs u) (h0 : RowZ w a n cap zs) {row : Option Nat} (hg : u.grownBy v row) (hr : ∀ j, row = some j → w.heap.size + 1 + 1 ≤ j) {O : Nat} (hO : w.heap.size + 1 < O) (x : Value) :
    Ls w a n cap P inc zs (v.setCell ⟨O, 0, none⟩ x) := by
  have hb : Below w.heap.size w (v.setCell ⟨O, 0, none⟩ x) := (h.bl.grown hg h.bl.size (fun j hj => by have := hr j hj; omega)).setCell (p := ⟨O, 0, none⟩) (by show w.heap.size ≤ O; omega) x
  exact ⟨hb, (h.bf.grown hg (fun j hj => by have := hr j hj; omega)).other (by omega) _ _, h0.under hb, (h.br.grown hg (fun j hj => by have := hr j hj; omega)).other (by omega) _ _⟩

end Go.Proofs.Ytcbocglakielnaa

namespace Go.Proofs.Ytcbocglakielnaa
open Go.RowKit
set_option linter.unusedSimpArgs false

end Go.Proofs.Ytcbocglakielnaa
