/- What is left of one curve when another one is taken away, as mathematics: the greatest difference so far, and the least one from a tick on. Nothing here speaks of the program. By the verifier's side. | Functions that are given like curves, perhaps beyond the limits: which curve they have, if any. Nothing here speaks of the program. By the verifier's side. | The document's operations on curves as mathematics: what is handed to Made, and when there is no curve. Nothing here speaks of the program. By the verifier's side. -/
import Derived.Test.YtjjaaknjdmijbaaQcPwMPwOPwX
namespace Go.Proofs.Ytjjaaknjdmijbaa
set_option linter.unusedVariables false

theorem ole_anti {a b : Option Int} (h : ole a b) (k : ole b a) : a = b := by
  cases b with
  | some y =>
    obtain ⟨x, rfl, hx⟩ := h y rfl
    obtain ⟨z, hz, hy⟩ := k x rfl
    cases hz
    congr 1; omega
  | none =>
    cases a with
    | none => rfl
    | some x => obtain ⟨z, hz, _⟩ := k x rfl; cases hz
theorem ole_of_enc {a b : Option Int} (hb : ∀ y, b = some y → y < infV) (h : enc a ≤ enc b) : ole a b := by
  intro y hy
  have := hb y hy
  subst hy
  cases a with
  | none => change infV ≤ y at h; omega
  | some x => exact ⟨x, rfl, h⟩

/-! ## The greatest so far -/

section
variable {D D' : Nat → Option Int}
end

section
variable {d : Nat → Int} {S L : Nat} {δ : Int}
end

/-! ## The least from a tick on -/

def IsLow (D : Nat → Option Int) (t : Nat) (v : Option Int) : Prop := (∃ s, t ≤ s ∧ D s = v) ∧ ∀ s, t ≤ s → ole v (D s)
theorem IsLow.unique {D : Nat → Option Int} {t : Nat} {u v : Option Int} (h : IsLow D t u) (k : IsLow D t v) : u = v := by
  obtain ⟨⟨s, hs, rfl⟩, h1⟩ := h
  obtain ⟨⟨r, hr, rfl⟩, k1⟩ := k
  exact ole_anti (h1 r hr) (k1 s hs)
section
variable {D D' : Nat → Option Int}
end

/-! ## The differences of two curves -/

/-- A common multiple of two periods. -/
structure Mult (p q L : Nat) : Prop where
  one : 1 ≤ L
  dp : L / p * p = L
  dq : L / q * q = L
theorem Lcm.mult {p q L : Nat} (h : Lcm p q L) : Mult p q L := ⟨h.one, h.dp, h.dq⟩


section
variable {zs ys : List Int} {p q : Nat} {inc jnc : Int}
/-! ### The greatest so far -/

theorem tame_mid {E : Nat → Option Int} (hu : ∀ t, E t = none → E (t + 1) = none) (hb : ∀ t x, t ≤ 400 → E t = some x → x ≤ 1125899906842624) : Tame E := by
  cases h : E 400 with
  | some y => exact tame_400 hu h (hb 400 y (Nat.le_refl _) h)
  | none =>
    refine ⟨hu, .inr fun t x hx => ?_⟩
    by_cases ht : t ≤ 400
    · have := hb t x ht hx; unfold infV; omega
    · have := stays hu h (t - 400)
      rw [show 400 + (t - 400) = t by omega, hx] at this
      cases this
/-- What one period behind tick 400 tells. -/
def Sett (F : Nat → Int) (L : Nat) (G : Int) : Prop := (F (400 + L) - F 400 = G → Per F 400 L G) ∧ ∃ S, Per F S L G
theorem Sett.no {F : Nat → Int} {L : Nat} {G : Int} (h : Sett F L G) (hn : ¬ F (400 + L) - F 400 = G) : ¬ CanBe F := fun hc => by
  obtain ⟨S, hS⟩ := h.2
  have := hc.late hS 400 (Nat.le_refl _)
  omega
/-! ### The least from a tick on -/

end

end Go.Proofs.Ytjjaaknjdmijbaa

namespace Go.Proofs.Ytjjaaknjdmijbaa

/-- A function that is given like a curve, all finite. -/
structure RawC (zs : List Int) (p : Nat) (inc : Int) : Prop where
  few : zs.length ≤ 8192
  p1 : 1 ≤ p
  p2 : p ≤ 1024
  p3 : p ≤ zs.length
  i0 : 0 ≤ inc
  i1 : inc ≤ 35184372088832
  val : ∀ i, i < zs.length → 0 ≤ zs.getD i 0 ∧ zs.getD i 0 ≤ 2251799813685248

theorem RawC.fin {zs : List Int} {p : Nat} {inc : Int} (h : RawC zs p inc) : ¬ zs.getD (zs.length - 1) 0 = infV := by
  have h1 := h.p1; have h3 := h.p3
  have := h.val (zs.length - 1) (by omega)
  unfold infV; omega
theorem RawC.small {zs : List Int} {p : Nat} {inc : Int} (h : RawC zs p inc) {i : Nat} (hi : i < zs.length) : 0 ≤ zs.getD i 0 ∧ zs.getD i 0 ≤ 2251799813685248 := h.val i hi
theorem RawC.per {zs : List Int} {p : Nat} {inc : Int} (h : RawC zs p inc) : Per (atC zs p inc) (zs.length - p) p inc := atC_per h.p1 h.p3 h.fin
theorem RawC.bd {zs : List Int} {p : Nat} {inc : Int} (h : RawC zs p inc) (t : Nat) : 0 ≤ atC zs p inc t ∧ atC zs p inc t ≤ 2251799813685248 + 35184372088832 * ((t : Int) + 1) := by
  have h0 := h.i0
  have h1 := h.i1
  induction t using Nat.strongRecOn with
  | ind t ih =>
    have hp := h.p3; have hp1 := h.p1
    by_cases hlt : t < zs.length
    · rw [atC_lt hlt]; have := h.small hlt; omega
    · have e := h.per (t - p) (by omega)
      have := ih (t - p) (by omega)
      rw [show t - p + p = t by omega] at e
      omega

section
variable {zs ys : List Int} {p q : Nat} {inc jnc : Int}

end

end Go.Proofs.Ytjjaaknjdmijbaa

namespace Go.Proofs.Ytjjaaknjdmijbaa

section
variable {zs ys : List Int} {p q : Nat} {inc jnc : Int}

/-! ## Sums -/

theorem Good.perM (g : Good zs p inc) (hf : ¬ InfC zs) {L m : Nat} (hL : L / p * p = L) (hm : zs.length - p ≤ m) : Per (atC zs p inc) m L (inc * ((L / p : Nat) : Int)) := by
  have h := (g.per hf).mul (L / p)
  rw [hL, Int.mul_comm] at h
  exact h.mono hm

/-! ## The lesser and the greater of two -/

/-- Where a curve is below one that grows less, the lesser and the greater one of them are no curves. -/
theorem over {a b : Nat → Int} {L : Nat} {ca cb : Int} (ha : Per a 400 L ca) (hb : Per b 400 L cb) (hL : 1 ≤ L) {u : Nat} (hu : 400 ≤ u) (hne : a u < b u) (hlt : cb < ca) : ¬ CanBe (minF a b) ∧ ¬ CanBe (maxF a b) := by
  have hd : Per (fun t => b t - a t) 400 L (cb - ca) := fun t ht => by have := ha t ht; have := hb t ht; show b (t + L) - a (t + L) = b t - a t + (cb - ca); omega
  obtain ⟨S, _, hf⟩ := falls hd hL (by omega)
  have hS : S ≤ S * L := Nat.le_mul_of_pos_right _ hL
  have e1 := ha.mul S u hu
  have e2 := hb.mul S u hu
  have e3 : b (u + S * L) - a (u + S * L) ≤ 0 := hf (u + S * L) (by omega)
  constructor
  · intro hc
    obtain ⟨S', hm⟩ := min_late ha hb hL
    have h := (hc.late hm).mul S u hu
    rw [show min ca cb = cb by omega] at h
    unfold minF at h
    omega
  · intro hc
    obtain ⟨S', hm⟩ := max_late ha hb hL
    have h := (hc.late hm).mul S u hu
    rw [show max ca cb = ca by omega] at h
    unfold maxF at h
    omega

/-! ## One curve -/

end

end Go.Proofs.Ytjjaaknjdmijbaa
