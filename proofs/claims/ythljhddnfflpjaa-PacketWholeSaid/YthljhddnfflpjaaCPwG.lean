/- Contracts of package pointwise: Sum, Minimum, Maximum; the chapter's examples. By the verifier's side. -/
import Derived.Test.YthljhddnfflpjaaCPwF
import Derived.Test.YthljhddnfflpjaaCPwOR56MHpM
import Derived.Test.YthljhddnfflpjaaCCurS
import Derived.Test.YthljhddnfflpjaaCCurG
namespace Go.Proofs.Ythljhddnfflpjaa
open Go.RowKit
set_option linter.unusedSimpArgs false

/-- The curve in normal form with the values E is handed back, with no error. -/
def GivesOk (E : Nat → Option Int) (w : World) (e : Ending) (w' : World) : Prop :=
  ∃ (a : Option Addr) (n cap : Nat) (zs : List Int) (p : Nat) (inc : Int), e = .returned (.tuple #[curV a n cap p inc, .int .i64 0]) ∧ Below w.heap.size w w' ∧ RowZ w' a n cap zs ∧ EForm zs p inc E ∧ ∀ x, a = some x → w.heap.size ≤ x.block

theorem GivesE.ok {E : Nat → Option Int} (hc : ECan E) {w w' : World} {e : Ending} (h : GivesE E w e w') : GivesOk E w e w' := by
  obtain ⟨hb, ⟨a, n, cap, zs, p, inc, he, hr, hf, hx⟩ | ⟨_, hno⟩⟩ := h
  · exact ⟨a, n, cap, zs, p, inc, he, hb, hr, hf, hx⟩
  · exact absurd hc hno

theorem GivesE.to {E E' : Nat → Option Int} (h : E = E') {w w' : World} {e : Ending} (k : GivesE E w e w') : GivesE E' w e w' := h ▸ k

theorem GivesE.post {E : Nat → Option Int} {w w1 w2 : World} {b : Nat} (hB : Below w.heap.size w w1) (hb1 : w.heap.size ≤ b) (hb2 : b < w1.heap.size) (h2 : Below w1.heap.size w1 w2) {a : Option Addr} {n cap : Nat} {zs : List Int} {p : Nat} {inc : Int} (hr : RowZ w2 a n cap zs)
    (hx : ∀ x, a = some x → w1.heap.size ≤ x.block) (hf : EForm zs p inc E) :
    GivesE E w (.returned (.tuple #[curV a n cap p inc, .int .i64 0])) (((w2.setCell ⟨b, 0, none⟩ (.slice a n cap)).setCell ⟨b, 1, none⟩ (.int .i64 p)).setCell ⟨b, 2, none⟩ (.int .i64 inc)) := by
  have hne : ∀ x : Addr, a = some x → 1 ≤ n → x.block ≠ b := fun x h _ => by have := hx x h; omega
  exact ⟨below_set3 (hB.trans (h2.mono hB.size)) hb1 _ _ _, .inl ⟨a, n, cap, zs, p, inc, rfl, ((hr.store hne _ _).store hne _ _).store hne _ _, hf, fun x h => by have := hx x h; have := hB.size; omega⟩⟩

theorem GivesE.postNo {E : Nat → Option Int} {w w1 w2 : World} {b : Nat} (hB : Below w.heap.size w w1) (hb1 : w.heap.size ≤ b) (h2 : Below w1.heap.size w1 w2) (hno : ¬ ECan E) :
    GivesE E w (.returned (.tuple #[curV none 0 0 0 0, .int .i64 3])) (((w2.setCell ⟨b, 0, none⟩ (.slice none 0 0)).setCell ⟨b, 1, none⟩ (.int .i64 0)).setCell ⟨b, 2, none⟩ (.int .i64 0)) :=
  ⟨below_set3 (hB.trans (h2.mono hB.size)) hb1 _ _ _, .inr ⟨rfl, hno⟩⟩

/-! ## The examples -/

/-! ## Boxes -/

theorem EForm.good {zs : List Int} {p : Nat} {inc : Int} {E : Nat → Option Int} (h : EForm zs p inc E) : Good zs p inc := h.1
theorem EForm.at {zs : List Int} {p : Nat} {inc : Int} {E : Nat → Option Int} (h : EForm zs p inc E) {t : Nat} {x : Int} (hx : E t = some x) : atC zs p inc t = x := by
  rw [← enc_eC, h.2.1, hx]; rfl

end Go.Proofs.Ythljhddnfflpjaa
