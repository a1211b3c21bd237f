/- Mathematics of the convolution of two curves, without the program. By the verifier's side. | Mathematics of the certificates of a convolution, without the program. By the verifier's side. -/
import Derived.Test.YtjjaaknjdmijbaaQcR56M
namespace Go.Proofs.Ytjjaaknjdmijbaa
set_option linter.unusedVariables false

/-! ### The convolution of two functions with infinity -/

theorem ole_oadd2 {a b c d : Option Int} (h : ole a c) (k : ole b d) : ole (oadd a b) (oadd c d) := fun y hy => by
  obtain ⟨u, v, rfl, rfl, rfl⟩ := both_some hy
  obtain ⟨x, rfl, hx⟩ := h u rfl
  obtain ⟨z, rfl, hz⟩ := k v rfl
  exact ⟨x + z, rfl, by omega⟩

variable {a b c a' b' : Nat → Option Int}

/-! ### Two finite functions -/

structure Conv (x y C : Nat → Int) : Prop where
  le : ∀ t s, s ≤ t → C t ≤ x s + y (t - s)
  found : ∀ t, ∃ s, s ≤ t ∧ C t = x s + y (t - s)

variable {x y C : Nat → Int} {sa sb L : Nat} {ra rb : Int}

theorem Conv.comm (h : Conv x y C) : Conv y x C := by
  refine ⟨fun t s hs => ?_, fun t => ?_⟩
  · have := h.le t (t - s) (by omega)
    rw [show t - (t - s) = s by omega] at this; omega
  · obtain ⟨s, hs, e⟩ := h.found t
    exact ⟨t - s, by omega, by rw [show t - (t - s) = s by omega]; omega⟩

theorem Conv.lower (h : Conv x y C) (hx : Per x sa L ra) (hy : Per y sb L rb) {t : Nat} (ht : sa + sb + L ≤ t + 1) : C t + min ra rb ≤ C (t + L) := by
  obtain ⟨s, hs, e⟩ := h.found (t + L)
  by_cases h1 : sa + L ≤ s
  · have e1 := hx (s - L) (by omega)
    rw [show s - L + L = s by omega] at e1
    have := h.le t (s - L) (by omega)
    rw [show t - (s - L) = t + L - s by omega] at this
    omega
  · have e1 := hy (t - s) (by omega)
    have := h.le t s (by omega)
    rw [show t - s + L = t + L - s by omega] at e1
    omega

theorem Conv.upper (h : Conv x y C) (hx : Per x sa L ra) {t s : Nat} (hs : s ≤ t) (h1 : sa ≤ s) (e : C t = x s + y (t - s)) : C (t + L) ≤ C t + ra := by
  have := h.le (t + L) (s + L) (by omega)
  rw [show t + L - (s + L) = t - s by omega, hx s h1] at this
  omega

theorem Conv.upper' (h : Conv x y C) (hy : Per y sb L rb) {t s : Nat} (hs : s ≤ t) (h1 : sb ≤ t - s) (e : C t = x s + y (t - s)) : C (t + L) ≤ C t + rb := by
  have := h.le (t + L) s (by omega)
  rw [show t + L - s = t - s + L by omega, hy (t - s) h1] at this
  omega

theorem Conv.from1 (h : Conv x y C) (hx : Per x sa L ra) (hy : Per y sb L rb) (hlt : ra ≤ rb) {t : Nat} (ht : sa + sb ≤ t) (hc : C (t + L) = C t + ra) : C (t + L + L) ≤ C (t + L) + ra := by
  obtain ⟨s, hs, e⟩ := h.found (t + L)
  by_cases h3 : sa ≤ s
  · exact h.upper hx hs h3 e
  · have h5 := h.upper' hy hs (by omega) e
    have e1 := hy (t - s) (by omega)
    rw [show t - s + L = t + L - s by omega] at e1
    have := h.le t s (by omega)
    omega

/-- The test of one period behind both starts and one common period tells it for all ticks. -/
theorem Conv.all (h : Conv x y C) (hx : Per x sa L ra) (hy : Per y sb L rb) (hL : 1 ≤ L) {S : Nat} (hS : sa + sb + L ≤ S) (hc : ∀ t, S ≤ t → t < S + L → C (t + L) = C t + min ra rb) : Per C S L (min ra rb) := by
  intro t
  induction t using Nat.strongRecOn with
  | _ t ih =>
    intro ht
    by_cases hlt : t < S + L
    · exact hc t ht hlt
    · have e := ih (t - L) (by omega) (by omega)
      rw [show t - L + L = t by omega] at e
      have h1 := h.lower hx hy (t := t) (by omega)
      have h2 : C (t + L) ≤ C t + min ra rb := by
        rcases Int.le_total ra rb with hle | hle
        · rw [show min ra rb = ra by omega] at e ⊢
          have := h.from1 hx hy hle (t := t - L) (by omega) (by rw [show t - L + L = t by omega]; exact e)
          rwa [show t - L + L = t by omega] at this
        · rw [show min ra rb = rb by omega] at e ⊢
          have := h.comm.from1 hy hx hle (t := t - L) (by omega) (by rw [show t - L + L = t by omega]; exact e)
          rwa [show t - L + L = t by omega] at this
      omega

/-! ### The convolution of two curves -/

variable {zs ys : List Int} {p q : Nat} {inc jnc : Int}

theorem at_mid2 (g : Good zs p inc) {t : Nat} (ht : t ≤ 100000) : Mid (atC zs p inc t) := by
  rcases eC_cases g (show t ≤ 1048576 by omega) with ⟨_, h2⟩ | ⟨x, _, h2, h3, h4⟩
  · exact .inl h2
  · exact .inr (by rw [h2]; exact ⟨h3, by omega⟩)

theorem growI_mul {L : Nat} (hf : ¬ InfC zs) : growI zs p inc L = inc * ((L / p : Nat) : Int) := by rw [growI_fin hf, Int.mul_comm]

theorem encF_eC (zs : List Int) (p : Nat) (inc : Int) : encF (eC zs p inc) = atC zs p inc := funext fun t => enc_eC zs p inc t

end Go.Proofs.Ytjjaaknjdmijbaa

namespace Go.Proofs.Ytjjaaknjdmijbaa
set_option linter.unusedVariables false

variable {zs ys hs : List Int} {p q r : Nat} {inc jnc knc : Int}

end Go.Proofs.Ytjjaaknjdmijbaa
