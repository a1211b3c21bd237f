/- The mathematics of curves: functions that are periodic but for a constant, their least period and start. Nothing here speaks of the program. By the verifier's side. -/
import Derived.Lib.Hide
namespace Go.Proofs.Ytkienpbmoilheaa

/-- From s on, p ticks later f is c more. -/
def Per (f : Nat → Int) (s p : Nat) (c : Int) : Prop := ∀ t, s ≤ t → f (t + p) = f t + c

theorem Per.mono {f : Nat → Int} {s s' p : Nat} {c : Int} (h : Per f s p c) (hs : s ≤ s') : Per f s' p c := fun t ht => h t (Nat.le_trans hs ht)

theorem Per.mul {f : Nat → Int} {s p : Nat} {c : Int} (h : Per f s p c) (k : Nat) : Per f s (k * p) ((k : Int) * c) := by
  induction k with
  | zero => intro t _; simp
  | succ k ih =>
    intro t ht
    have e : t + (k + 1) * p = (t + k * p) + p := by rw [Nat.succ_mul, Nat.add_assoc]
    rw [e, h _ (by omega), ih t ht, Int.natCast_succ, Int.add_mul]
    omega

theorem Per.same {f : Nat → Int} {s p : Nat} {c d : Int} (h : Per f s p c) (k : Per f s p d) : c = d := by
  have h1 := h s (Nat.le_refl _)
  have h2 := k s (Nat.le_refl _)
  omega

/-- What holds for one known period holds for all ticks. -/
theorem Per.upto {f : Nat → Int} {s P p : Nat} {I c : Int} (h : Per f s P I) (hP : 1 ≤ P) (hc : ∀ t, s ≤ t → t < s + P → f (t + p) = f t + c) : Per f s p c := by
  intro t
  induction t using Nat.strongRecOn with
  | ind t ih =>
    intro ht
    by_cases hlt : t < s + P
    · exact hc t ht hlt
    · obtain ⟨u, rfl⟩ : ∃ u, t = u + P := ⟨t - P, by omega⟩
      have h1 := ih u (by omega) (by omega)
      have h2 := h u (by omega)
      have h3 := h (u + p) (by omega)
      rw [show u + P + p = u + p + P by omega]
      omega

/-- A period from somewhere on is one from each start of another period. -/
theorem Per.any {f : Nat → Int} {s s2 P p : Nat} {I c : Int} (h : Per f s P I) (hP : 1 ≤ P) (k : Per f s2 p c) : Per f s p c := by
  intro t ht
  have h1 := (h.mul s2) t ht
  have h2 := (h.mul s2) (t + p) (by omega)
  have hle : s2 ≤ s2 * P := Nat.le_mul_of_pos_right _ (by omega)
  have h3 := k (t + s2 * P) (by omega)
  rw [show t + p + s2 * P = t + s2 * P + p by omega] at h2
  omega

theorem Per.ext {f g : Nat → Int} {s p : Nat} {c : Int} (h : Per f s p c) (k : Per g s p c) (hp : 1 ≤ p) (he : ∀ t, t < s + p → f t = g t) : ∀ t, f t = g t := by
  intro t
  induction t using Nat.strongRecOn with
  | ind t ih =>
    by_cases hlt : t < s + p
    · exact he t hlt
    · obtain ⟨u, rfl⟩ : ∃ u, t = u + p := ⟨t - p, by omega⟩
      rw [h u (by omega), k u (by omega), ih u (by omega)]

/-- The least period, and the least start of it. -/
structure NormOf (f : Nat → Int) (s p : Nat) (c : Int) : Prop where
  per : Per f s p c
  pos : 1 ≤ p
  least : ∀ q, 1 ≤ q → q < p → ∀ s' c', ¬ Per f s' q c'
  start : s = 0 ∨ ¬ f (s - 1 + p) = f (s - 1) + c

/-- The test of a period over one known period. -/
def GrowsAt (f : Nat → Int) (s P q : Nat) : Prop := ∀ t, s + 1 ≤ t → t < s + P → f (t + q) - f t = f (s + q) - f s

theorem grows_iff {f : Nat → Int} {s P q : Nat} {I : Int} (h : Per f s P I) (hP : 1 ≤ P) : GrowsAt f s P q ↔ ∃ s' c, Per f s' q c := by
  constructor
  · intro hg
    refine ⟨s, f (s + q) - f s, h.upto hP fun t h1 h2 => ?_⟩
    by_cases he : t = s
    · subst he; omega
    · have := hg t (by omega) h2; omega
  · rintro ⟨s', c, hk⟩ t h1 _
    have hq := h.any hP hk
    have e1 := hq t (by omega)
    have e2 := hq s (Nat.le_refl _)
    omega

/-- What the search for the least period and the least start finds. -/
theorem normOf_found {f : Nat → Int} {s s' P r : Nat} {I : Int} (h : Per f s P I) (hP : 1 ≤ P) (hr1 : 1 ≤ r) (hr2 : r ≤ P) (hg : r < P → GrowsAt f s P r)
    (hl : ∀ q, 1 ≤ q → q < r → ¬ GrowsAt f s P q) (_hs : s' ≤ s) (ht : ∀ t, s' ≤ t → t < s → f (t + r) - f t = f (s + r) - f s)
    (he : s' = 0 ∨ ¬ f (s' - 1 + r) - f (s' - 1) = f (s + r) - f s) : NormOf f s' r (f (s + r) - f s) := by
  have hp : Per f s r (f (s + r) - f s) := by
    by_cases hlt : r < P
    · obtain ⟨s2, c, hk⟩ := (grows_iff h hP).1 (hg hlt)
      have hq := h.any hP hk
      have := hq s (Nat.le_refl _)
      rw [show f (s + r) - f s = c by omega]
      exact hq
    · obtain rfl : r = P := by omega
      have := h s (Nat.le_refl _)
      rw [show f (s + r) - f s = I by omega]
      exact h
  refine ⟨fun t h1 => ?_, hr1, fun q h1 h2 s2 c hk => hl q h1 h2 ((grows_iff h hP).2 ⟨s2, c, hk⟩), ?_⟩
  · by_cases hlt : t < s
    · have := ht t h1 hlt; omega
    · exact hp t (by omega)
  · rcases he with h0 | hn
    · exact .inl h0
    · exact .inr (by omega)

/-! ## A curve's values -/

abbrev infV : Int := 4611686018427387904
/-- The value at a tick. -/
def atC (zs : List Int) (p : Nat) (inc : Int) (t : Nat) : Int :=
  if t < zs.length then zs.getD t 0
  else if zs.getD (zs.length - 1) 0 = infV then infV
  else zs.getD (t - ((t - zs.length) / p + 1) * p) 0 + (((t - zs.length) / p + 1 : Nat) : Int) * inc

/-- A valid curve. -/
structure Good (zs : List Int) (p : Nat) (inc : Int) : Prop where
  few : zs.length ≤ 400
  p1 : 1 ≤ p
  p2 : p ≤ 120
  p3 : p ≤ zs.length
  i0 : 0 ≤ inc
  i1 : inc ≤ 1073741824
  val : ∀ i, i < zs.length → (0 ≤ zs.getD i 0 ∧ zs.getD i 0 ≤ 1073741824) ∨ zs.getD i 0 = infV
  mono : ∀ i, i + 1 < zs.length → zs.getD i 0 ≤ zs.getD (i + 1) 0
  tailI : zs.getD (zs.length - 1) 0 = infV → p = 1 ∧ inc = 0
  tailF : ¬ zs.getD (zs.length - 1) 0 = infV → zs.getD (zs.length - 1) 0 ≤ zs.getD (zs.length - p) 0 + inc

theorem mono_le {zs : List Int} (hm : ∀ i, i + 1 < zs.length → zs.getD i 0 ≤ zs.getD (i + 1) 0) : ∀ k i, i + k < zs.length → zs.getD i 0 ≤ zs.getD (i + k) 0 := by
  intro k
  induction k with
  | zero => intro i _; exact Int.le_refl _
  | succ k ih =>
    intro i hi
    have h1 := ih i (by omega)
    have h2 := hm (i + k) (by omega)
    rw [show i + (k + 1) = i + k + 1 by omega]
    omega

theorem Good.le {zs : List Int} {p : Nat} {inc : Int} (h : Good zs p inc) {i j : Nat} (hij : i ≤ j) (hj : j < zs.length) : zs.getD i 0 ≤ zs.getD j 0 := by
  have := mono_le h.mono (j - i) i (by omega)
  rwa [show i + (j - i) = j by omega] at this

/-- Of a finite curve all Values are small. -/
theorem Good.small {zs : List Int} {p : Nat} {inc : Int} (h : Good zs p inc) (hf : ¬ zs.getD (zs.length - 1) 0 = infV) {i : Nat} (hi : i < zs.length) : 0 ≤ zs.getD i 0 ∧ zs.getD i 0 ≤ 1073741824 := by
  have h1 := h.le (show i ≤ zs.length - 1 by omega) (by omega)
  have h2 := h.val i hi
  have h3 := h.val (zs.length - 1) (by omega)
  unfold infV at *
  omega

theorem atC_lt {zs : List Int} {p : Nat} {inc : Int} {t : Nat} (h : t < zs.length) : atC zs p inc t = zs.getD t 0 := by unfold atC; rw [if_pos h]

theorem atC_inf {zs : List Int} {p : Nat} {inc : Int} (hi : zs.getD (zs.length - 1) 0 = infV) {t : Nat} (ht : zs.length - 1 ≤ t) (h0 : 1 ≤ zs.length) : atC zs p inc t = infV := by
  unfold atC
  by_cases h : t < zs.length
  · rw [if_pos h, show t = zs.length - 1 by omega, hi]
  · rw [if_neg h, if_pos hi]

theorem idx_facts {n p t : Nat} (hp : 1 ≤ p) (hpn : p ≤ n) (ht : n ≤ t) : ((t - n) / p + 1) * p ≤ t ∧ n - p ≤ t - ((t - n) / p + 1) * p ∧ t - ((t - n) / p + 1) * p < n := by
  have h1 := Nat.mod_add_div (t - n) p
  have h2 := Nat.mod_lt (t - n) hp
  have e : ((t - n) / p + 1) * p = p * ((t - n) / p) + p := by rw [Nat.succ_mul, Nat.mul_comm]
  rw [e]
  omega

theorem atC_ge {zs : List Int} {p : Nat} {inc : Int} {t : Nat} (hf : ¬ zs.getD (zs.length - 1) 0 = infV) (h : zs.length ≤ t) :
    atC zs p inc t = zs.getD (t - ((t - zs.length) / p + 1) * p) 0 + (((t - zs.length) / p + 1 : Nat) : Int) * inc := by
  unfold atC; rw [if_neg (by omega), if_neg hf]

theorem atC_per {zs : List Int} {p : Nat} {inc : Int} (hp : 1 ≤ p) (hpn : p ≤ zs.length) (hf : ¬ zs.getD (zs.length - 1) 0 = infV) : Per (atC zs p inc) (zs.length - p) p inc := by
  intro t ht
  rw [atC_ge hf (show zs.length ≤ t + p by omega)]
  by_cases hlt : t < zs.length
  · rw [atC_lt hlt]
    have e : (t + p - zs.length) / p = 0 := Nat.div_eq_of_lt (by omega)
    rw [e, show t + p - (0 + 1) * p = t by omega]
    simp
  · rw [atC_ge hf (by omega)]
    have e : (t + p - zs.length) / p = (t - zs.length) / p + 1 := by
      rw [show t + p - zs.length = (t - zs.length) + p by omega, Nat.add_div_right _ hp]
    obtain ⟨h1, _, _⟩ := idx_facts hp hpn (show zs.length ≤ t by omega)
    rw [e]
    generalize (t - zs.length) / p + 1 = k at h1 ⊢
    rw [show t + p - (k + 1) * p = t - k * p by rw [Nat.succ_mul]; omega, Int.natCast_succ, Int.add_mul]
    omega

theorem Good.per {zs : List Int} {p : Nat} {inc : Int} (h : Good zs p inc) (hf : ¬ zs.getD (zs.length - 1) 0 = infV) : Per (atC zs p inc) (zs.length - p) p inc := atC_per h.p1 h.p3 hf

theorem Good.step {zs : List Int} {p : Nat} {inc : Int} (h : Good zs p inc) (t : Nat) : atC zs p inc t ≤ atC zs p inc (t + 1) := by
  by_cases hf : zs.getD (zs.length - 1) 0 = infV
  · by_cases hlt : t + 1 < zs.length
    · rw [atC_lt hlt, atC_lt (by omega)]; exact h.mono t hlt
    · have hp := h.p3; have hp1 := h.p1
      rw [atC_inf hf (by omega) (by omega), atC_inf hf (by omega) (by omega)]; exact Int.le_refl _
  · induction t using Nat.strongRecOn with
    | ind t ih =>
      have hp := h.p3; have hp1 := h.p1
      by_cases hlt : t + 1 < zs.length
      · rw [atC_lt hlt, atC_lt (by omega)]; exact h.mono t hlt
      · by_cases he : t + 1 = zs.length
        · have h1 := h.per hf (zs.length - p) (Nat.le_refl _)
          rw [show zs.length - p + p = t + 1 by omega] at h1
          rw [h1, atC_lt (by omega), atC_lt (by omega), show t = zs.length - 1 by omega]
          exact h.tailF hf
        · have h1 := h.per hf (t - p) (by omega)
          have h2 := h.per hf (t - p + 1) (by omega)
          have h3 := ih (t - p) (by omega)
          rw [show t - p + p = t by omega] at h1
          rw [show t - p + 1 + p = t + 1 by omega] at h2
          omega

theorem Good.up {zs : List Int} {p : Nat} {inc : Int} (h : Good zs p inc) (k t : Nat) : atC zs p inc t ≤ atC zs p inc (t + k) := by
  induction k with
  | zero => exact Int.le_refl _
  | succ k ih => have := h.step (t + k); rw [show t + (k + 1) = t + k + 1 by omega]; omega

theorem Good.bd {zs : List Int} {p : Nat} {inc : Int} (h : Good zs p inc) (hf : ¬ zs.getD (zs.length - 1) 0 = infV) (t : Nat) : 0 ≤ atC zs p inc t ∧ atC zs p inc t ≤ 1073741824 * ((t : Int) + 1) := by
  have h0 := h.i0
  have h1 := h.i1
  induction t using Nat.strongRecOn with
  | ind t ih =>
    have hp := h.p3; have hp1 := h.p1
    by_cases hlt : t < zs.length
    · rw [atC_lt hlt]; have := h.small hf hlt; omega
    · have e := h.per hf (t - p) (by omega)
      have := ih (t - p) (by omega)
      rw [show t - p + p = t by omega] at e
      omega

theorem Good.inf_iff {zs : List Int} {p : Nat} {inc : Int} (h : Good zs p inc) : (∃ i, i < zs.length ∧ zs.getD i 0 = infV) ↔ zs.getD (zs.length - 1) 0 = infV := by
  have hp := h.p3; have hp1 := h.p1
  constructor
  · rintro ⟨i, hi, he⟩
    have h1 := h.le (show i ≤ zs.length - 1 by omega) (by omega)
    have h2 := h.val (zs.length - 1) (by omega)
    unfold infV at *
    omega
  · intro he; exact ⟨zs.length - 1, by omega, he⟩

theorem getD_take {zs : List Int} {m i : Nat} (h : i < m) : (zs.take m).getD i 0 = zs.getD i 0 := by
  simp [List.getD, h]

/-- (zs', p', inc') is the normal form of (zs, p, inc). -/
def NormC (zs : List Int) (p : Nat) (inc : Int) (zs' : List Int) (p' : Nat) (inc' : Int) : Prop :=
  (¬ zs.getD (zs.length - 1) 0 = infV ∧ ∃ s, NormOf (atC zs p inc) s p' inc' ∧ zs' = zs.take (s + p') ∧ s + p' ≤ zs.length ∧ p' ≤ p) ∨
  (∃ i, i < zs.length ∧ zs.getD i 0 = infV ∧ (∀ j, j < i → ¬ zs.getD j 0 = infV) ∧ zs' = zs.take (i + 1) ∧ p' = 1 ∧ inc' = 0)

theorem NormC.values {zs zs' : List Int} {p p' : Nat} {inc inc' : Int} (g : Good zs p inc) (h : NormC zs p inc zs' p' inc') : ∀ t, atC zs' p' inc' t = atC zs p inc t := by
  rcases h with ⟨hf, s, hn, rfl, hle, hpp⟩ | ⟨i, hi, he, hj, rfl, rfl, rfl⟩
  · have hl : (zs.take (s + p')).length = s + p' := by rw [List.length_take]; omega
    have hpos := hn.pos
    have hlast : ¬ (zs.take (s + p')).getD ((zs.take (s + p')).length - 1) 0 = infV := by
      rw [hl, getD_take (by omega)]
      have := g.small hf (show s + p' - 1 < zs.length by omega)
      unfold infV; omega
    have hper := atC_per (inc := inc') hn.pos (show p' ≤ (zs.take (s + p')).length by omega) hlast
    rw [hl, show s + p' - p' = s by omega] at hper
    refine hper.ext hn.per hn.pos fun t ht => ?_
    rw [atC_lt (by omega), getD_take ht, atC_lt (by omega)]
  · have hl : (zs.take (i + 1)).length = i + 1 := by rw [List.length_take]; omega
    have hz : zs.getD (zs.length - 1) 0 = infV := g.inf_iff.1 ⟨i, hi, he⟩
    intro t
    by_cases ht : t < i + 1
    · rw [atC_lt (by omega), getD_take ht, atC_lt (by omega)]
    · rw [atC_inf (by rw [hl, getD_take (by omega)]; exact he) (by omega) (by omega)]
      by_cases hlt : t < zs.length
      · rw [atC_lt hlt]
        have h1 := g.le (show i ≤ t by omega) hlt
        have h2 := g.val t hlt
        unfold infV at *
        omega
      · rw [atC_inf hz (by omega) (by omega)]

theorem NormC.good {zs zs' : List Int} {p p' : Nat} {inc inc' : Int} (g : Good zs p inc) (h : NormC zs p inc zs' p' inc') : Good zs' p' inc' := by
  have hv := h.values g
  rcases h with ⟨hf, s, hn, rfl, hle, hpp⟩ | ⟨i, hi, he, hj, rfl, rfl, rfl⟩
  · have hl : (zs.take (s + p')).length = s + p' := by rw [List.length_take]; omega
    have hpos := hn.pos
    have hinc : inc' = atC zs p inc (zs.length - p + p') - atC zs p inc (zs.length - p) ∧ 0 ≤ inc' ∧ inc' ≤ inc := by
      have h1 := hn.per (zs.length - p + s) (by omega)
      have h0 := (g.per hf).any g.p1 hn.per (zs.length - p) (Nat.le_refl _)
      have h2 := g.up p' (zs.length - p)
      have h3 := g.per hf (zs.length - p) (Nat.le_refl _)
      have h4 := g.up (p - p') (zs.length - p + p')
      rw [show zs.length - p + p' + (p - p') = zs.length - p + p by omega] at h4
      omega
    have hg := g.few; have hp2 := g.p2; have hi1 := g.i1
    refine ⟨by omega, hpos, by omega, by omega, hinc.2.1, by omega, fun i hi => ?_, fun i hi => ?_, fun hx => ?_, fun _ => ?_⟩
    · rw [getD_take (by omega)]; exact g.val i (by omega)
    · rw [getD_take (by omega), getD_take (by omega)]; exact g.mono i (by omega)
    · exfalso
      rw [hl, getD_take (by omega)] at hx
      have := g.small hf (show s + p' - 1 < zs.length by omega)
      unfold infV at hx; omega
    · rw [hl, getD_take (by omega), getD_take (by omega), show s + p' - p' = s by omega]
      have h1 := hn.per s (Nat.le_refl _)
      have h2 := g.step (s + p' - 1)
      rw [show s + p' - 1 + 1 = s + p' by omega] at h2
      rw [atC_lt (show s + p' - 1 < zs.length by omega)] at h2
      rw [atC_lt (show s < zs.length by omega)] at h1
      omega
  · have hl : (zs.take (i + 1)).length = i + 1 := by rw [List.length_take]; omega
    have hg := g.few
    refine ⟨by omega, by omega, by omega, by omega, by omega, by omega, fun j hj => ?_, fun j hj => ?_, fun _ => ⟨rfl, rfl⟩, fun hx => ?_⟩
    · rw [getD_take (by omega)]; exact g.val j (by omega)
    · rw [getD_take (by omega), getD_take (by omega)]; exact g.mono j (by omega)
    · exfalso; apply hx; rw [hl, getD_take (by omega)]; exact he

theorem list_ext_getD {a b : List Int} (hl : a.length = b.length) (h : ∀ i, i < a.length → a.getD i 0 = b.getD i 0) : a = b := by
  apply List.ext_getElem hl
  intro i h1 h2
  have := h i h1
  simpa [List.getD, List.getElem?_eq_getElem h1, List.getElem?_eq_getElem h2] using this

end Go.Proofs.Ytkienpbmoilheaa

namespace Go.Proofs.Ytkienpbmoilheaa

/-- The list of a function's first values. -/
def firsts (f : Nat → Int) (m : Nat) : List Int := (List.range m).map f
theorem firsts_length (f : Nat → Int) (m : Nat) : (firsts f m).length = m := by simp [firsts]
theorem firsts_getD (f : Nat → Int) (m i : Nat) (h : i < m) : (firsts f m).getD i 0 = f i := by simp [firsts, List.getD, h]
theorem Good.grow {zs : List Int} {p : Nat} {inc : Int} (g : Good zs p inc) (hf : ¬ zs.getD (zs.length - 1) 0 = infV) {t : Nat} (ht : zs.length - p ≤ t) (k : Nat) : atC zs p inc (t + k) ≤ atC zs p inc t + (k : Int) * inc := by
  induction k with
  | zero => simp
  | succ k ih =>
    have h1 := g.per hf (t + k) (by omega)
    have h2 := g.up (p - 1) (t + k + 1)
    have hp := g.p1
    rw [show t + k + 1 + (p - 1) = t + k + p by omega] at h2
    rw [show t + (k + 1) = t + k + 1 by omega, Int.natCast_succ, Int.add_mul]
    omega

end Go.Proofs.Ytkienpbmoilheaa
