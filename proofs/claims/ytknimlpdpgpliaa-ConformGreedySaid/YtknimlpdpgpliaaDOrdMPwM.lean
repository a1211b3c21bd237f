/- The mathematics of two curves that are compared at every tick. Nothing here speaks of the program. By the verifier's side. -/
import Derived.Test.YtknimlpdpgpliaaDCurN
namespace Go.Proofs.Ytknimlpdpgpliaa

theorem Per.to {d : Nat → Int} {S L : Nat} {c : Int} (h : Per d S L c) (r j : Nat) : d (S + r + j * L) = d (S + r) + (j : Int) * c := h.mul j (S + r) (by omega)

/-! ## Two curves -/

/-- A curve that is not finite. -/
def InfC (zs : List Int) : Prop := zs.getD (zs.length - 1) 0 = infV
theorem infC_iff (zs : List Int) : InfC zs ↔ zs.getD (zs.length - 1) 0 = infV := Iff.rfl

section
variable {zs ys : List Int} {p q : Nat} {inc jnc : Int}

/-- A value of an infinite curve is infinite or small. -/
theorem Good.inf_small (g : Good zs p inc) (hi : InfC zs) (t : Nat) : atC zs p inc t = infV ∨ (0 ≤ atC zs p inc t ∧ atC zs p inc t ≤ 1073741824) := by
  have h3 := g.p3; have h1 := g.p1
  by_cases ht : t < zs.length
  · rw [atC_lt ht]
    rcases g.val t ht with h | h
    · exact .inr h
    · exact .inl h
  · exact .inl (atC_inf hi (by omega) (by omega))

end
end Go.Proofs.Ytknimlpdpgpliaa

namespace Go.Proofs.Ytknimlpdpgpliaa

/-! ## The least period and start of a function -/

theorem NormOf.start_le {f : Nat → Int} {s p s' P : Nat} {c I : Int} (h : NormOf f s p c) (k : Per f s' P I) (hP : 1 ≤ P) : s ≤ s' := by
  rcases h.start with h0 | hn
  · omega
  · exact Nat.le_of_not_lt fun hlt => hn ((k.any hP h.per) (s - 1) (by omega))

theorem NormOf.per_le {f : Nat → Int} {s p s' P : Nat} {c I : Int} (h : NormOf f s p c) (k : Per f s' P I) (hP : 1 ≤ P) : p ≤ P :=
  Nat.le_of_not_lt fun hlt => h.least P hP hlt _ _ k

theorem Good.perAny {zs : List Int} {p : Nat} {inc : Int} (g : Good zs p inc) : Per (atC zs p inc) (zs.length - p) p inc := by
  by_cases hi : zs.getD (zs.length - 1) 0 = infV
  · have h3 := g.p3
    obtain ⟨rfl, rfl⟩ := g.tailI hi
    intro t ht
    rw [atC_inf hi (by omega) (by omega), atC_inf hi (by omega) (by omega)]; omega
  · exact g.per hi

/-- A curve in normal form with the values F. -/
def Form (zs : List Int) (p : Nat) (inc : Int) (F : Nat → Int) : Prop :=
  Good zs p inc ∧ (∀ t, atC zs p inc t = F t) ∧ ∃ s, zs.length = s + p ∧ NormOf F s p inc

theorem Good.form {ys : List Int} {q : Nat} {j : Int} (g : Good ys q j) {F : Nat → Int} (he : ∀ t, atC ys q j t = F t) {s p : Nat} {c : Int} (hn : NormOf F s p c) :
    s + p ≤ ys.length ∧ p ≤ q ∧ NormC ys q j (firsts F (s + p)) p c ∧ Form (firsts F (s + p)) p c F := by
  have hpe : Per F (ys.length - q) q j := fun t ht => by rw [← he, ← he]; exact g.perAny t ht
  have hs := hn.start_le hpe g.p1
  have hp := hn.per_le hpe g.p1
  have h3 := g.p3
  have h1 := g.p1
  have hp1 := hn.pos
  have htk : firsts F (s + p) = ys.take (s + p) := list_ext_getD (by rw [firsts_length, List.length_take]; omega) fun i hi => by
    rw [firsts_length] at hi
    rw [firsts_getD _ _ _ hi, getD_take hi, ← he, atC_lt (by omega)]
  have hN : NormC ys q j (firsts F (s + p)) p c := by
    rw [htk]
    by_cases hi : ys.getD (ys.length - 1) 0 = infV
    · obtain ⟨rfl, rfl⟩ := g.tailI hi
      obtain rfl : p = 1 := by omega
      have hc : c = 0 := (hn.per.mono hs).same hpe
      subst hc
      have hF : ∀ k, F (s + k) = F s := fun k => by
        induction k with
        | zero => rfl
        | succ k ih => have := hn.per (s + k) (by omega); rw [show s + (k + 1) = s + k + 1 by omega]; omega
      have hFs : F s = infV := by
        have := hF (ys.length - 1 - s)
        rw [show s + (ys.length - 1 - s) = ys.length - 1 by omega, ← he, atC_lt (by omega), hi] at this
        exact this.symm
      refine .inr ⟨s, by omega, by rw [← atC_lt (p := 1) (inc := 0) (show s < ys.length by omega), he]; exact hFs, fun k hk hx => ?_, rfl, rfl, rfl⟩
      rcases hn.start with h0 | hne
      · omega
      · have a1 := g.le (show k ≤ s - 1 by omega) (by omega)
        have a2 := g.val (s - 1) (by omega)
        have a3 := he (s - 1)
        rw [atC_lt (by omega)] at a3
        apply hne
        rw [show s - 1 + 1 = s by omega, hFs, ← a3]
        unfold infV at *; omega
    · exact .inl ⟨hi, s, by rw [show atC ys q j = F from funext he]; exact hn, rfl, by omega, hp⟩
  have hv := hN.values g
  exact ⟨by omega, hp, hN, hN.good g, fun t => (hv t).trans (he t), s, firsts_length _ _, hn⟩

/-! ## Values that may be infinite -/

def enc : Option Int → Int
  | none => infV
  | some x => x

/-! ## Curves from their values -/

/-! ## The greater and the lesser of two functions -/

end Go.Proofs.Ytknimlpdpgpliaa
