/- What Least answers, of a list of buckets: each Token and the Minimum of the result so far and the next one. By the verifier's side. -/
import Derived.Test.YtjipmkgnndldpaaIBkG
import Derived.Test.YtjipmkgnndldpaaICloR
namespace Go.Proofs.Ytjipmkgnndldpaa
open Go.RowKit
set_option linter.unusedSimpArgs false
set_option linter.unusedVariables false

/-- What Minimum answers, of two valid curves. -/
def MinIs (z1 : List Int) (p1 : Nat) (i1 : Int) (z2 : List Int) (p2 : Nat) (i2 : Int) (zs : List Int) (p inc c : Int) : Prop :=
  ∃ L, LcmN z1 p1 i1 z2 p2 i2 L ∧ ((L ≤ 120 ∧ EIs (eMin z1 p1 i1 z2 p2 i2) zs p inc c) ∨ (120 < L ∧ c = 3 ∧ zs = [] ∧ p = 0 ∧ inc = 0))
/-- A bucket, and an answer. -/
structure Bkt where
  bn : Int
  bd : Int
  rn : Int
  rd : Int
structure Rs where
  zs : List Int
  p : Int
  inc : Int
  c : Int
instance : Inhabited Bkt := ⟨⟨0, 0, 0, 0⟩⟩
def Bkt.ok (b : Bkt) : Bool := okB b.bn b.bd && okB b.rn b.rd
/-- A curve that is valid, or the zero curve and an error. -/
def Rs.ok (r : Rs) : Prop := (r.c = 0 ∧ ∃ q : Nat, r.p = q ∧ Good r.zs q r.inc) ∨ (¬ r.c = 0 ∧ r.zs = [] ∧ r.p = 0 ∧ r.inc = 0)
def Rs.Pas (b : Bkt) (r : Rs) : Prop := PasIs b.bn.toNat b.bd.toNat b.rn.toNat b.rd.toNat r.zs r.p r.inc r.c
theorem EIs.okR {E : Nat → Option Int} {zs : List Int} {p inc c : Int} (h : EIs E zs p inc c) : Rs.ok ⟨zs, p, inc, c⟩ := by
  rcases h with ⟨rfl, q, rfl, hf⟩ | ⟨rfl, rfl, rfl, rfl, _⟩
  · exact .inl ⟨rfl, q, rfl, hf.good⟩
  · exact .inr ⟨by show ¬ (3 : Int) = 0; omega, rfl, rfl, rfl⟩
theorem Rs.Pas.ok {b : Bkt} {r : Rs} (h : Rs.Pas b r) : r.ok := by
  rcases h with ⟨_, h⟩ | ⟨_, h1, h2, h3, h4⟩
  · exact h.okR
  · exact .inr ⟨by omega, h2, h3, h4⟩
def Rs.Min (r s t : Rs) : Prop := ∀ (p q : Nat), r.p = p → s.p = q → Good r.zs p r.inc → Good s.zs q s.inc → MinIs r.zs p r.inc s.zs q s.inc t.zs t.p t.inc t.c
theorem Rs.Min.ok {r s t : Rs} (h : Rs.Min r s t) {p q : Nat} (h1 : r.p = p) (h2 : s.p = q) (g1 : Good r.zs p r.inc) (g2 : Good s.zs q s.inc) : t.ok := by
  obtain ⟨L, _, ⟨_, hE⟩ | ⟨_, k1, k2, k3, k4⟩⟩ := h p q h1 h2 g1 g2
  · exact hE.okR
  · exact .inr ⟨by omega, k2, k3, k4⟩

end Go.Proofs.Ytjipmkgnndldpaa
