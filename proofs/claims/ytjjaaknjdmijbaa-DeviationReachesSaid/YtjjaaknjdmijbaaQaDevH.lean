/- For the walks of the laws about deviations: curves that repeat by a day, later, scaled; what is read of the drawn curves. By the verifier's side. -/
import Derived.Test.YtjjaaknjdmijbaaQaDevG
import Derived.Test.YtjjaaknjdmijbaaQaZeroZero3
import Derived.Test.YtjjaaknjdmijbaaQaKeepC
namespace Go.Proofs.Ytjjaaknjdmijbaa
open Go.RowKit
set_option linter.unusedSimpArgs false
set_option linter.unusedVariables false

theorem Day.laterO {E : Nat → Option Int} (h : Day E) (d : Nat) : Day (laterO d E) := by
  obtain ⟨s, c, hp, h | h⟩ := h
  · exact day_none (s := s + d) fun t ht => by unfold Go.Proofs.Ytjjaaknjdmijbaa.laterO; rw [if_neg (by omega)]; exact h _ (by omega)
  · refine day_some (F := fun t => encF E (t - d)) (s := s + d) (c := c) (fun t ht => by unfold Go.Proofs.Ytjjaaknjdmijbaa.laterO; rw [if_neg (by omega)]; exact h _ (by omega)) fun t ht => ?_
    have := hp (t - d) (by omega)
    show encF E (t + 24 - d) = encF E (t - d) + c
    rw [← this]; congr 1; omega
theorem Day.scaleO {E : Nat → Option Int} (h : Day E) (k : Int) : Day (fun t => omap (fun x => k * x) (E t)) := by
  obtain ⟨s, c, hp, h | h⟩ := h
  · exact day_none (s := s) fun t ht => by rw [h t ht]; rfl
  · refine day_some (F := fun t => k * encF E t) (s := s) (c := k * c) (fun t ht => by rw [h t ht]; rfl) fun t ht => ?_
    show k * encF E (t + 24) = k * encF E t + k * c
    rw [hp t ht, Int.mul_add]
theorem day_zero {most : Nat} {zs : List Int} {p : Nat} {inc : Int} (hf : ¬ InfC zs) (h : Sm3 most zs p inc) : Day (eC zs p inc) := by
  obtain ⟨c, hc⟩ := (h.2 hf).2
  refine ⟨most, _, (by rw [encF_eC]; exact hc.mul 2), .inr fun t _ => ?_⟩
  rw [encF_eC, eC_fin hf]
theorem day_drawn {most : Nat} {zs : List Int} {p : Nat} {inc : Int} (ok : OkCur most zs p inc) : Day (eC zs p inc) := by
  by_cases hi : InfC zs
  · exact day_none (s := zs.length - 1) fun t ht => eC_late ok.good hi ht
  · obtain ⟨c, hc⟩ := ok.twelve hi
    exact day_some (s := most - 1) (c := 2 * c) (fun t _ => eC_fin hi _ _ t) (by have := hc.mul 2; exact this)
theorem nn_eC {zs : List Int} {p : Nat} {inc : Int} (g : Good zs p inc) : Nn (eC zs p inc) := fun t y hy => (eC_bd g hy).1
/-- A curve is handed back, or the error that there is none. -/
def GivesZ3 (E : Nat → Option Int) (w : World) (e : Ending) (w' : World) : Prop :=
  ∃ (a : Option Addr) (n cap : Nat) (zs : List Int) (p inc c : Int), e = .returned (.tuple #[curV a n cap p inc, .int .i64 c]) ∧ Below w.heap.size w w' ∧ RowZ w' a n cap zs ∧ ((c = 0 ∧ ∃ q : Nat, p = q ∧ EForm zs q inc E) ∨ c = 3)
theorem GivesE.z3 {E : Nat → Option Int} {w w' : World} {e : Ending} (h : GivesE E w e w') : GivesZ3 E w e w' := by
  obtain ⟨hb, ⟨a, n, cap, zs, p, inc, he, hr, hf, hx⟩ | ⟨he, _⟩⟩ := h
  · exact ⟨a, n, cap, zs, p, inc, 0, he, hb, hr, .inl ⟨rfl, p, rfl, hf⟩⟩
  · exact ⟨none, 0, 0, [], 0, 0, 3, he, hb, ⟨rfl, Nat.le_refl _, Nat.zero_le _, by omega, fun i hi => absurd hi (Nat.not_lt_zero _), fun i hi => absurd hi (Nat.not_lt_zero _)⟩, .inr rfl⟩
/-- A box with a curve stands still where another box is written. -/
theorem Bx.away {u : World} {F : Nat} {a : Option Addr} {n cap p : Nat} {inc : Int} {zs : List Int} (h : Bx u F a n cap p inc zs) {b : Nat} (hF : ¬ F = b) (hx : ∀ x, a = some x → 1 ≤ n → x.block < b) (i : Nat) (v : Value) : Bx (u.setCell ⟨b, i, none⟩ v) F a n cap p inc zs :=
  ⟨h.box.other hF _ _, h.row.store (fun x k1 k2 => Nat.ne_of_lt (hx x k1 k2)) _ _⟩
end Go.Proofs.Ytjjaaknjdmijbaa
