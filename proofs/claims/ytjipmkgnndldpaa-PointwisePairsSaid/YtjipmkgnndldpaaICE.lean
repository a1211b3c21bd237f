/- A curve and an error that a call hands back. By the verifier's side. -/
import Derived.Test.YtjipmkgnndldpaaIPwSPwU
namespace Go.Proofs.Ytjipmkgnndldpaa
open Go.RowKit

/-- A curve and an error that a call hands back. -/
def GivesCE (zs : List Int) (p inc c : Int) (w : World) (e : Ending) (w' : World) : Prop :=
  ∃ (a : Option Addr) (n cap : Nat), e = .returned (.tuple #[curV a n cap p inc, .int .i64 c]) ∧ Below w.heap.size w w' ∧ RowZ w' a n cap zs ∧ ∀ x, a = some x → w.heap.size ≤ x.block
theorem GivesBad.ce {c : Int} {w w' : World} {e : Ending} (h : GivesBad c w e w') : GivesCE [] 0 0 c w e w' :=
  ⟨none, 0, 0, h.1, h.2, rowZ_none _, fun x hx => by cases hx⟩
theorem GivesE.ce {E : Nat → Option Int} {zs : List Int} {p : Nat} {inc : Int} (hf : EForm zs p inc E) {w w' : World} {e : Ending} (h : GivesE E w e w') : GivesCE zs p inc 0 w e w' := by
  obtain ⟨hb, ⟨a, n, cap, ys, q, jnc, rfl, hr, hk, hx⟩ | ⟨_, hno⟩⟩ := h
  · obtain ⟨rfl, rfl, rfl⟩ := hk.unique hf
    exact ⟨a, n, cap, rfl, hb, hr, hx⟩
  · exact absurd hf.can hno
theorem GivesE.ceNo {E : Nat → Option Int} (hn : ¬ ECan E) {w w' : World} {e : Ending} (h : GivesE E w e w') : GivesCE [] 0 0 3 w e w' := by
  obtain ⟨hb, ⟨a, n, cap, ys, q, jnc, rfl, hr, hk, hx⟩ | ⟨rfl, hno⟩⟩ := h
  · exact absurd hk.can hn
  · exact ⟨none, 0, 0, rfl, hb, rowZ_none _, fun x hx => by cases hx⟩
theorem ECan.form_ex {E : Nat → Option Int} (h : ECan E) : ∃ (zs : List Int) (p : Nat) (inc : Int), EForm zs p inc E := by
  obtain ⟨zs, p, inc, g, he⟩ := h
  obtain ⟨ys, q, jnc, hn⟩ := g.norm_ex
  have := NormC.eform g hn
  rw [funext he] at this
  exact ⟨ys, q, jnc, this⟩

/-- Whatever the values are: there is one answer that all give who give the curve with these values. -/
theorem e_ex (E : Nat → Option Int) : ∃ (zs : List Int) (p inc c : Int), ((c = 0 ∧ ∃ q : Nat, p = q ∧ EForm zs q inc E) ∨ (c = 3 ∧ zs = [] ∧ p = 0 ∧ inc = 0 ∧ ¬ ECan E)) ∧ ∀ (w : World) (e : Ending) (w' : World), GivesE E w e w' → GivesCE zs p inc c w e w' := by
  by_cases h : ECan E
  · obtain ⟨zs, p, inc, hf⟩ := h.form_ex
    exact ⟨zs, p, inc, 0, .inl ⟨rfl, p, rfl, hf⟩, fun _ _ _ k => k.ce hf⟩
  · exact ⟨[], 0, 0, 3, .inr ⟨rfl, rfl, rfl, rfl, h⟩, fun _ _ _ k => k.ceNo h⟩

end Go.Proofs.Ytjipmkgnndldpaa
