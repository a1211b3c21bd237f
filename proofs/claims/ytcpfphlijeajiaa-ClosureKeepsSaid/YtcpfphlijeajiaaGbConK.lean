/- Mathematics of the convolution of two concave curves, without the program. By the verifier's side. -/
import Derived.Test.YtcpfphlijeajiaaGbConMN
namespace Go.Proofs.Ytcpfphlijeajiaa
set_option linter.unusedVariables false

/-- 0 at 0, and each step is at most the one ahead of it. -/
structure Conc (f : Nat → Int) : Prop where
  z : f 0 = 0
  step : ∀ t, f (t + 2) - f (t + 1) ≤ f (t + 1) - f t

theorem Conc.down {f : Nat → Int} (h : Conc f) (s k : Nat) : f (s + k + 1) - f (s + k) ≤ f (s + 1) - f s := by
  induction k with
  | zero => exact Int.le_refl _
  | succ k ih => exact Int.le_trans (h.step (s + k)) ih

theorem Conc.mean {f : Nat → Int} (h : Conc f) (t : Nat) : (t : Int) * (f (t + 1) - f t) ≤ f t := by
  induction t with
  | zero => have := h.z; simp [this]
  | succ t ih =>
    have h1 := h.step t
    have h2 : ((t + 1 : Nat) : Int) * (f (t + 2) - f (t + 1)) ≤ ((t + 1 : Nat) : Int) * (f (t + 1) - f t) := Int.mul_le_mul_of_nonneg_left h1 (by omega)
    have h3 : ((t + 1 : Nat) : Int) * (f (t + 1) - f t) = (t : Int) * (f (t + 1) - f t) + (f (t + 1) - f t) := by
      rw [show ((t + 1 : Nat) : Int) = (t : Int) + 1 by omega, Int.add_mul, Int.one_mul]
    show ((t + 1 : Nat) : Int) * (f (t + 2) - f (t + 1)) ≤ f (t + 1)
    omega

theorem Conc.share {f : Nat → Int} (h : Conc f) (s k : Nat) : (s : Int) * f (s + k) ≤ ((s + k : Nat) : Int) * f s := by
  induction k with
  | zero => exact Int.le_refl _
  | succ k ih =>
    have h1 := h.down s k
    have h2 : (s : Int) * (f (s + k + 1) - f (s + k)) ≤ (s : Int) * (f (s + 1) - f s) := Int.mul_le_mul_of_nonneg_left h1 (by omega)
    have h3 := h.mean s
    have h4 : (s : Int) * f (s + k + 1) = (s : Int) * f (s + k) + (s : Int) * (f (s + k + 1) - f (s + k)) := by rw [← Int.mul_add]; congr 1; omega
    have h5 : ((s + (k + 1) : Nat) : Int) * f s = ((s + k : Nat) : Int) * f s + f s := by rw [show ((s + (k + 1) : Nat) : Int) = ((s + k : Nat) : Int) + 1 by omega, Int.add_mul, Int.one_mul]
    show (s : Int) * f (s + k + 1) ≤ ((s + (k + 1) : Nat) : Int) * f s
    omega

theorem conc_sum {f g : Nat → Int} (hf : Conc f) (hg : Conc g) {s t : Nat} (hs : s ≤ t) : min (f t) (g t) ≤ f s + g (t - s) := by
  obtain ⟨k, rfl⟩ : ∃ k, t = s + k := ⟨t - s, by omega⟩
  rw [show s + k - s = k by omega]
  by_cases h0 : s + k = 0
  · obtain rfl : s = 0 := by omega
    obtain rfl : k = 0 := by omega
    have := hf.z; have := hg.z
    show min (f 0) (g 0) ≤ f 0 + g 0
    omega
  · have h1 := hf.share s k
    have h2 := hg.share k s
    rw [Nat.add_comm k s] at h2
    generalize f (s + k) = F at *
    generalize g (s + k) = G at *
    have h3 : (s : Int) * min F G ≤ (s : Int) * F := Int.mul_le_mul_of_nonneg_left (Int.min_le_left _ _) (by omega)
    have h4 : (k : Int) * min F G ≤ (k : Int) * G := Int.mul_le_mul_of_nonneg_left (Int.min_le_right _ _) (by omega)
    have h5 : ((s + k : Nat) : Int) * min F G = (s : Int) * min F G + (k : Int) * min F G := by rw [show ((s + k : Nat) : Int) = (s : Int) + (k : Int) by omega, Int.add_mul]
    have h6 : ((s + k : Nat) : Int) * (f s + g k) = ((s + k : Nat) : Int) * f s + ((s + k : Nat) : Int) * g k := Int.mul_add _ _ _
    exact Int.le_of_mul_le_mul_left (a := ((s + k : Nat) : Int)) (by omega) (by omega)

/-- A curve of period 1 whose steps sink, and whose increment is at most its last step. -/
theorem conc_of {zs : List Int} {inc : Int} (g : Good zs 1 inc) (hf : ¬ InfC zs) (h0 : zs.getD 0 0 = 0) (hs : ∀ i, i + 2 < zs.length → zs.getD (i + 2) 0 - zs.getD (i + 1) 0 ≤ zs.getD (i + 1) 0 - zs.getD i 0)
    (hi : ∀ i, i + 2 = zs.length → inc ≤ zs.getD (i + 1) 0 - zs.getD i 0) : Conc (atC zs 1 inc) := by
  have hl := g.p3
  have hp := g.per hf
  refine ⟨(atC_lt (by omega)).trans h0, fun t => ?_⟩
  by_cases h2 : t + 2 < zs.length
  · rw [atC_lt h2, atC_lt (show t + 1 < zs.length by omega), atC_lt (show t < zs.length by omega)]
    exact hs t h2
  · have e2 : atC zs 1 inc (t + 2) = atC zs 1 inc (t + 1) + inc := hp (t + 1) (by omega)
    by_cases h1 : t + 1 < zs.length
    · have := hi t (by omega)
      rw [← atC_lt (p := 1) (inc := inc) h1, ← atC_lt (p := 1) (inc := inc) (show t < zs.length by omega)] at this
      omega
    · have e1 : atC zs 1 inc (t + 1) = atC zs 1 inc t + inc := hp t (by omega)
      omega

/-- What the making of a concave curve keeps: its values so far, and the step to come. -/
structure Sink (zs : List Int) (st : Int) : Prop where
  one : 1 ≤ zs.length
  z0 : zs.getD 0 0 = 0
  s0 : 0 ≤ st
  s1 : st ≤ 40
  up : ∀ i, i + 1 < zs.length → zs.getD i 0 ≤ zs.getD (i + 1) 0 ∧ zs.getD (i + 1) 0 ≤ zs.getD i 0 + 40
  sink : ∀ i, i + 2 < zs.length → zs.getD (i + 2) 0 - zs.getD (i + 1) 0 ≤ zs.getD (i + 1) 0 - zs.getD i 0
  last : ∀ i, i + 2 = zs.length → st ≤ zs.getD (i + 1) 0 - zs.getD i 0

theorem Sink.start {st : Int} (h0 : 0 ≤ st) (h1 : st ≤ 40) : Sink [0] st :=
  ⟨by decide, rfl, h0, h1, fun i hi => absurd hi (by simp), fun i hi => absurd hi (by simp), fun i hi => absurd hi (by simp)⟩

theorem Sink.bd {zs : List Int} {st : Int} (h : Sink zs st) : ∀ i, i < zs.length → 0 ≤ zs.getD i 0 ∧ zs.getD i 0 ≤ 40 * (i : Int)
  | 0, _ => by have := h.z0; omega
  | i + 1, hi => by
    have h1 := h.bd i (by omega)
    have h2 := h.up i hi
    omega

theorem sink_eq (zs : List Int) (x : Int) : (zs ++ [x]).getD zs.length 0 = x := by simp [List.getD]
theorem sink_lt {zs : List Int} {x : Int} {i : Nat} (h : i < zs.length) : (zs ++ [x]).getD i 0 = zs.getD i 0 := by simp [List.getD, List.getElem?_append_left h]

theorem Sink.grow {zs : List Int} {st st2 : Int} (h : Sink zs st) (h0 : 0 ≤ st2) (h1 : st2 ≤ st) {N : Nat} (hN : zs.length = N + 1) : Sink (zs ++ [zs.getD N 0 + st]) st2 := by
  have a0 := h.s0
  have a1 := h.s1
  have e : (zs ++ [zs.getD N 0 + st]).getD (N + 1) 0 = zs.getD N 0 + st := by rw [← hN]; exact sink_eq _ _
  have l : ∀ i, i ≤ N → (zs ++ [zs.getD N 0 + st]).getD i 0 = zs.getD i 0 := fun i hi => sink_lt (by omega)
  have hlen : (zs ++ [zs.getD N 0 + st]).length = N + 2 := by simp [hN]
  refine ⟨by omega, (l 0 (by omega)).trans h.z0, h0, by omega, fun i hi => ?_, fun i hi => ?_, fun i hi => ?_⟩ <;> rw [hlen] at hi
  · by_cases hh : i + 1 ≤ N
    · rw [l i (by omega), l (i + 1) hh]; exact h.up i (by omega)
    · obtain rfl : i = N := by omega
      rw [l i (by omega), e]; omega
  · by_cases hh : i + 2 ≤ N
    · rw [l i (by omega), l (i + 1) (by omega), l (i + 2) hh]; exact h.sink i (by omega)
    · obtain rfl : N = i + 1 := by omega
      have := h.last i (by omega)
      rw [l i (by omega), l (i + 1) (by omega)]
      show (zs ++ [zs.getD (i + 1) 0 + st]).getD (i + 1 + 1) 0 - _ ≤ _
      rw [e]; omega
  · obtain rfl : i = N := by omega
    rw [l i (by omega), e]; omega

theorem Sink.fin {zs : List Int} {st : Int} (h : Sink zs st) (hl : zs.length ≤ 10) : ¬ InfC zs := by
  have h1 := h.one
  have := h.bd (zs.length - 1) (by omega)
  rw [infC_iff]; unfold infV; omega

theorem Sink.good {zs : List Int} {st : Int} (h : Sink zs st) (hl : zs.length ≤ 10) : Good zs 1 st := by
  have h1 := h.one
  have a0 := h.s0
  have a1 := h.s1
  refine ⟨by omega, by decide, by decide, h1, a0, by omega, fun i hi => .inl ?_, fun i hi => (h.up i hi).1, fun hx => absurd ((infC_iff zs).2 hx) (h.fin hl), fun _ => by omega⟩
  have := h.bd i hi
  omega

theorem Sink.conc {zs : List Int} {st : Int} (h : Sink zs st) (hl : zs.length ≤ 10) : Conc (atC zs 1 st) := conc_of (h.good hl) (h.fin hl) h.z0 h.sink h.last

end Go.Proofs.Ytcpfphlijeajiaa
