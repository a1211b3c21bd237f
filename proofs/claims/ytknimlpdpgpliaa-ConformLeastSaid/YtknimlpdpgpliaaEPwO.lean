/- The operations on values, and when what they make is periodic. Nothing here speaks of the program. By the verifier's side. -/
import Derived.Test.YtknimlpdpgpliaaEOrdMPwM
namespace Go.Proofs.Ytknimlpdpgpliaa

def oadd : Option Int → Option Int → Option Int
  | some x, some y => some (x + y)
  | _, _ => none
def plI (a b : Int) : Int := if a = infV ∨ b = infV then infV else a + b

theorem plI_fin {a b : Int} (ha : ¬ a = infV) (hb : ¬ b = infV) : plI a b = a + b := by unfold plI; rw [if_neg (fun h => h.elim ha hb)]
theorem plI_l (b : Int) : plI infV b = infV := by unfold plI; rw [if_pos (.inl rfl)]
theorem plI_r (a : Int) : plI a infV = infV := by unfold plI; rw [if_pos (.inr rfl)]

theorem oadd_none_l (y : Option Int) : oadd none y = none := by cases y <;> rfl
/-- A number that is infinite or small. -/
def Mid (x : Int) : Prop := x = infV ∨ (0 ≤ x ∧ x ≤ 1125899906842624)

section
variable {zs ys : List Int} {p q : Nat} {inc jnc : Int}

/-- The value of a curve at a tick that is not late, and the value with infinity. -/
theorem eC_cases (g : Good zs p inc) {t : Nat} (_ht : t ≤ 1048576) : (eC zs p inc t = none ∧ atC zs p inc t = infV) ∨ (∃ x, eC zs p inc t = some x ∧ atC zs p inc t = x ∧ 0 ≤ x ∧ x ≤ 1073741824 * ((t : Int) + 1)) := by
  cases h : eC zs p inc t with
  | none => exact .inl ⟨rfl, (eC_none.1 h).2⟩
  | some x => have := eC_bd g h; exact .inr ⟨x, rfl, this.2.2, this.1, this.2.1⟩

/-! ### Sum -/

/-- Of an infinite sum or maximum the finite values are small. -/
theorem both_some {a b : Option Int} {x : Int} (h : oadd a b = some x) : ∃ y z, a = some y ∧ b = some z ∧ x = y + z := by
  cases a with
  | none => rw [oadd_none_l] at h; cases h
  | some y =>
    cases b with
    | none => cases h
    | some z => exact ⟨y, z, rfl, rfl, by cases h; rfl⟩
/-! ### One curve -/

end

end Go.Proofs.Ytknimlpdpgpliaa
