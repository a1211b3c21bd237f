/- Plain arithmetic of fractions: no program. By the verifier's side. -/
import Derived.WalkKit
namespace Go.Proofs.Ytombgfpheiopgaa

/-- The limit of a term. -/
def lim : Nat := 1073741824

/-- num / den in lowest terms, and the error's number. -/
def newF (num den : Int) : Int × Int × Int :=
  if den = 0 then (0, 0, 2) else
  if lim < num.natAbs / Nat.gcd num.natAbs den.natAbs ∨ lim < den.natAbs / Nat.gcd num.natAbs den.natAbs then (0, 0, 3) else
  (if decide (num < 0) = decide (den < 0) then ((num.natAbs / Nat.gcd num.natAbs den.natAbs : Nat) : Int) else -((num.natAbs / Nat.gcd num.natAbs den.natAbs : Nat) : Int), ((den.natAbs / Nat.gcd num.natAbs den.natAbs : Nat) : Int), 0)

/-- Is it a fraction in lowest terms, within the limits? -/
def okF (n d : Int) : Bool := decide (1 ≤ d ∧ d ≤ 1073741824 ∧ -1073741824 ≤ n ∧ n ≤ 1073741824 ∧ Nat.gcd n.natAbs d.natAbs = 1)

theorem newF_mulk (n k : Int) (hk : 1 ≤ k) (h0 : 0 ≤ n) (h1 : n ≤ 1073741824) : newF (n * k) k = (n, 1, 0) := by
  obtain ⟨a, rfl⟩ := Int.eq_ofNat_of_zero_le h0
  obtain ⟨b, rfl⟩ := Int.eq_ofNat_of_zero_le (show 0 ≤ k by omega)
  have e1 : ((a : Int) * (b : Int)).natAbs = a * b := by rw [← Int.natCast_mul]; rfl
  have hb : 0 < b := by omega
  have e2 : Nat.gcd (a * b) b = b := Nat.gcd_mul_left_left a b
  have p1 : ¬ ((a : Int) * (b : Int) < 0) := by have := Int.mul_nonneg h0 (show (0 : Int) ≤ b by omega); omega
  have p2 : ¬ ((b : Int) < 0) := by omega
  have e3 : ((b : Int)).natAbs = b := rfl
  unfold newF lim
  simp only [e1, e2, e3, Nat.mul_div_cancel _ hb, Nat.div_self hb]
  rw [if_neg (by omega), if_neg (by omega), if_pos (by simp [p1, p2])]
  rfl

end Go.Proofs.Ytombgfpheiopgaa
