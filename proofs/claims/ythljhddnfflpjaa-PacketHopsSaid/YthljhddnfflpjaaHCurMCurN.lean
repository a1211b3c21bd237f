/- The mathematics of curves: functions that are periodic but for a constant, their least period and start. Nothing here speaks of the program. By the verifier's side. -/
import Derived.Lib.Hide
namespace Go.Proofs.Ythljhddnfflpjaa

/-- From s on, p ticks later f is c more. -/
def Per (f : Nat → Int) (s p : Nat) (c : Int) : Prop := ∀ t, s ≤ t → f (t + p) = f t + c

theorem Per.mono {f : Nat → Int} {s s' p : Nat} {c : Int} (h : Per f s p c) (hs : s ≤ s') : Per f s' p c := fun t ht => h t (Nat.le_trans hs ht)

theorem Per.mul {f : Nat → Int} {s p : Nat} {c : Int} (h : Per f s p c) (k : Nat) : Per f s (k * p) ((k : Int) * c) := by
  induction k with
  | zero => intro t _; simp
  | succ k ih =>
    intro t ht
    have e : t + (k + 1) * p = (t + k * p) + p := by rw [Nat.succ_mul, Nat.add_assoc]
    rw [e, h _ (by omega), ih t ht, Int.natCast_succ, Int.add_mul]
    omega

theorem Per.same {f : Nat → Int} {s p : Nat} {c d : Int} (h : Per f s p c) (k : Per f s p d) : c = d := by
  have h1 := h s (Nat.le_refl _)
  have h2 := k s (Nat.le_refl _)
  omega

/-- What holds for one known period holds for all ticks. -/
theorem Per.upto {f : Nat → Int} {s P p : Nat} {I c : Int} (h : Per f s P I) (hP : 1 ≤ P) (hc : ∀ t, s ≤ t → t < s + P → f (t + p) = f t + c) : Per f s p c := by
  intro t
  induction t using Nat.strongRecOn with
  | ind t ih =>
    intro ht
    by_cases hlt : t < s + P
    · exact hc t ht hlt
    · obtain ⟨u, rfl⟩ : ∃ u, t = u + P := ⟨t - P, by omega⟩
      have h1 := ih u (by omega) (by omega)
      have h2 := h u (by omega)
      have h3 := h (u + p) (by omega)
      rw [show u + P + p = u + p + P by omega]
      omega

/-- A period from somewhere on is one from each start of another period. -/
theorem Per.any {f : Nat → Int} {s s2 P p : Nat} {I c : Int} (h : Per f s P I) (hP : 1 ≤ P) (k : Per f s2 p c) : Per f s p c := by
  intro t ht
  have h1 := (h.mul s2) t ht
  have h2 := (h.mul s2) (t + p) (by omega)
  have hle : s2 ≤ s2 * P := Nat.le_mul_of_pos_right _ (by omega)
  have h3 := k (t + s2 * P) (by omega)
  rw [show t + p + s2 * P = t + s2 * P + p by omega] at h2
  omega

theorem Per.mod {f : Nat → Int} {s P p : Nat} {I c : Int} (h : Per f s P I) (k : Per f s p c) : Per f s (P % p) (I - ((P / p : Nat) : Int) * c) := by
  intro t ht
  have h1 := h t ht
  have h2 := (k.mul (P / p)) (t + P % p) (by omega)
  have e : t + P % p + P / p * p = t + P := by
    have h3 := Nat.mod_add_div P p
    rw [Nat.mul_comm] at h3
    omega
  rw [e] at h2
  omega

theorem Per.ext {f g : Nat → Int} {s p : Nat} {c : Int} (h : Per f s p c) (k : Per g s p c) (hp : 1 ≤ p) (he : ∀ t, t < s + p → f t = g t) : ∀ t, f t = g t := by
  intro t
  induction t using Nat.strongRecOn with
  | ind t ih =>
    by_cases hlt : t < s + p
    · exact he t hlt
    · obtain ⟨u, rfl⟩ : ∃ u, t = u + p := ⟨t - p, by omega⟩
      rw [h u (by omega), k u (by omega), ih u (by omega)]

/-- The least period, and the least start of it. -/
structure NormOf (f : Nat → Int) (s p : Nat) (c : Int) : Prop where
  per : Per f s p c
  pos : 1 ≤ p
  least : ∀ q, 1 ≤ q → q < p → ∀ s' c', ¬ Per f s' q c'
  start : s = 0 ∨ ¬ f (s - 1 + p) = f (s - 1) + c

theorem NormOf.unique {f : Nat → Int} {s s' p p' : Nat} {c c' : Int} (h : NormOf f s p c) (k : NormOf f s' p' c') : s = s' ∧ p = p' ∧ c = c' := by
  have hp : p = p' := by
    rcases Nat.lt_trichotomy p p' with hl | he | hl
    · exact absurd h.per (k.least p h.pos hl _ _)
    · exact he
    · exact absurd k.per (h.least p' k.pos hl _ _)
  subst hp
  have hc : c = c' := h.per.same (h.per.any h.pos k.per)
  subst hc
  have a1 : ∀ {s s' : Nat}, NormOf f s p c → NormOf f s' p c → ¬ s < s' := fun {s s'} h k hlt => by
    rcases k.start with h0 | hn
    · omega
    · exact hn (h.per (s' - 1) (by omega))
  have b1 := a1 h k
  have b2 := a1 k h
  exact ⟨by omega, rfl, rfl⟩

/-- The test of a period over one known period. -/
def GrowsAt (f : Nat → Int) (s P q : Nat) : Prop := ∀ t, s + 1 ≤ t → t < s + P → f (t + q) - f t = f (s + q) - f s

theorem grows_iff {f : Nat → Int} {s P q : Nat} {I : Int} (h : Per f s P I) (hP : 1 ≤ P) : GrowsAt f s P q ↔ ∃ s' c, Per f s' q c := by
  constructor
  · intro hg
    refine ⟨s, f (s + q) - f s, h.upto hP fun t h1 h2 => ?_⟩
    by_cases he : t = s
    · subst he; omega
    · have := hg t (by omega) h2; omega
  · rintro ⟨s', c, hk⟩ t h1 _
    have hq := h.any hP hk
    have e1 := hq t (by omega)
    have e2 := hq s (Nat.le_refl _)
    omega

/-- What the search for the least period and the least start finds. -/
theorem normOf_found {f : Nat → Int} {s s' P r : Nat} {I : Int} (h : Per f s P I) (hP : 1 ≤ P) (hr1 : 1 ≤ r) (hr2 : r ≤ P) (hg : r < P → GrowsAt f s P r)
    (hl : ∀ q, 1 ≤ q → q < r → ¬ GrowsAt f s P q) (_hs : s' ≤ s) (ht : ∀ t, s' ≤ t → t < s → f (t + r) - f t = f (s + r) - f s)
    (he : s' = 0 ∨ ¬ f (s' - 1 + r) - f (s' - 1) = f (s + r) - f s) : NormOf f s' r (f (s + r) - f s) := by
  have hp : Per f s r (f (s + r) - f s) := by
    by_cases hlt : r < P
    · obtain ⟨s2, c, hk⟩ := (grows_iff h hP).1 (hg hlt)
      have hq := h.any hP hk
      have := hq s (Nat.le_refl _)
      rw [show f (s + r) - f s = c by omega]
      exact hq
    · obtain rfl : r = P := by omega
      have := h s (Nat.le_refl _)
      rw [show f (s + r) - f s = I by omega]
      exact h
  refine ⟨fun t h1 => ?_, hr1, fun q h1 h2 s2 c hk => hl q h1 h2 ((grows_iff h hP).2 ⟨s2, c, hk⟩), ?_⟩
  · by_cases hlt : t < s
    · have := ht t h1 hlt; omega
    · exact hp t (by omega)
  · rcases he with h0 | hn
    · exact .inl h0
    · exact .inr (by omega)

/-- The least period divides each other one, and has its share of the growth. -/
theorem NormOf.divides {f : Nat → Int} {s s' p P : Nat} {c I : Int} (h : NormOf f s p c) (k : Per f s' P I) : P % p = 0 ∧ I = ((P / p : Nat) : Int) * c := by
  have hk := h.per.any h.pos k
  have hm := hk.mod h.per
  have hlt := Nat.mod_lt P h.pos
  have h0 : P % p = 0 := by
    rcases Nat.eq_zero_or_pos (P % p) with h0 | hpos
    · exact h0
    · exact absurd hm (h.least _ hpos hlt _ _)
  refine ⟨h0, ?_⟩
  rw [h0] at hm
  have := hm s (Nat.le_refl _)
  rw [Nat.add_zero] at this
  omega

/-! ## A curve's values -/

abbrev infV : Int := 4611686018427387904
/-- The value at a tick. -/
def atC (zs : List Int) (p : Nat) (inc : Int) (t : Nat) : Int :=
  if t < zs.length then zs.getD t 0
  else if zs.getD (zs.length - 1) 0 = infV then infV
  else zs.getD (t - ((t - zs.length) / p + 1) * p) 0 + (((t - zs.length) / p + 1 : Nat) : Int) * inc

/-- A valid curve. -/
structure Good (zs : List Int) (p : Nat) (inc : Int) : Prop where
  few : zs.length ≤ 400
  p1 : 1 ≤ p
  p2 : p ≤ 120
  p3 : p ≤ zs.length
  i0 : 0 ≤ inc
  i1 : inc ≤ 1073741824
  val : ∀ i, i < zs.length → (0 ≤ zs.getD i 0 ∧ zs.getD i 0 ≤ 1073741824) ∨ zs.getD i 0 = infV
  mono : ∀ i, i + 1 < zs.length → zs.getD i 0 ≤ zs.getD (i + 1) 0
  tailI : zs.getD (zs.length - 1) 0 = infV → p = 1 ∧ inc = 0
  tailF : ¬ zs.getD (zs.length - 1) 0 = infV → zs.getD (zs.length - 1) 0 ≤ zs.getD (zs.length - p) 0 + inc

theorem mono_le {zs : List Int} (hm : ∀ i, i + 1 < zs.length → zs.getD i 0 ≤ zs.getD (i + 1) 0) : ∀ k i, i + k < zs.length → zs.getD i 0 ≤ zs.getD (i + k) 0 := by
  intro k
  induction k with
  | zero => intro i _; exact Int.le_refl _
  | succ k ih =>
    intro i hi
    have h1 := ih i (by omega)
    have h2 := hm (i + k) (by omega)
    rw [show i + (k + 1) = i + k + 1 by omega]
    omega

theorem Good.le {zs : List Int} {p : Nat} {inc : Int} (h : Good zs p inc) {i j : Nat} (hij : i ≤ j) (hj : j < zs.length) : zs.getD i 0 ≤ zs.getD j 0 := by
  have := mono_le h.mono (j - i) i (by omega)
  rwa [show i + (j - i) = j by omega] at this

/-- Of a finite curve all Values are small. -/
theorem Good.small {zs : List Int} {p : Nat} {inc : Int} (h : Good zs p inc) (hf : ¬ zs.getD (zs.length - 1) 0 = infV) {i : Nat} (hi : i < zs.length) : 0 ≤ zs.getD i 0 ∧ zs.getD i 0 ≤ 1073741824 := by
  have h1 := h.le (show i ≤ zs.length - 1 by omega) (by omega)
  have h2 := h.val i hi
  have h3 := h.val (zs.length - 1) (by omega)
  unfold infV at *
  omega

theorem atC_lt {zs : List Int} {p : Nat} {inc : Int} {t : Nat} (h : t < zs.length) : atC zs p inc t = zs.getD t 0 := by unfold atC; rw [if_pos h]

theorem atC_inf {zs : List Int} {p : Nat} {inc : Int} (hi : zs.getD (zs.length - 1) 0 = infV) {t : Nat} (ht : zs.length - 1 ≤ t) (h0 : 1 ≤ zs.length) : atC zs p inc t = infV := by
  unfold atC
  by_cases h : t < zs.length
  · rw [if_pos h, show t = zs.length - 1 by omega, hi]
  · rw [if_neg h, if_pos hi]

theorem idx_facts {n p t : Nat} (hp : 1 ≤ p) (hpn : p ≤ n) (ht : n ≤ t) : ((t - n) / p + 1) * p ≤ t ∧ n - p ≤ t - ((t - n) / p + 1) * p ∧ t - ((t - n) / p + 1) * p < n := by
  have h1 := Nat.mod_add_div (t - n) p
  have h2 := Nat.mod_lt (t - n) hp
  have e : ((t - n) / p + 1) * p = p * ((t - n) / p) + p := by rw [Nat.succ_mul, Nat.mul_comm]
  rw [e]
  omega

theorem atC_ge {zs : List Int} {p : Nat} {inc : Int} {t : Nat} (hf : ¬ zs.getD (zs.length - 1) 0 = infV) (h : zs.length ≤ t) :
    atC zs p inc t = zs.getD (t - ((t - zs.length) / p + 1) * p) 0 + (((t - zs.length) / p + 1 : Nat) : Int) * inc := by
  unfold atC; rw [if_neg (by omega), if_neg hf]

theorem atC_per {zs : List Int} {p : Nat} {inc : Int} (hp : 1 ≤ p) (hpn : p ≤ zs.length) (hf : ¬ zs.getD (zs.length - 1) 0 = infV) : Per (atC zs p inc) (zs.length - p) p inc := by
  intro t ht
  rw [atC_ge hf (show zs.length ≤ t + p by omega)]
  by_cases hlt : t < zs.length
  · rw [atC_lt hlt]
    have e : (t + p - zs.length) / p = 0 := Nat.div_eq_of_lt (by omega)
    rw [e, show t + p - (0 + 1) * p = t by omega]
    simp
  · rw [atC_ge hf (by omega)]
    have e : (t + p - zs.length) / p = (t - zs.length) / p + 1 := by
      rw [show t + p - zs.length = (t - zs.length) + p by omega, Nat.add_div_right _ hp]
    obtain ⟨h1, _, _⟩ := idx_facts hp hpn (show zs.length ≤ t by omega)
    rw [e]
    generalize (t - zs.length) / p + 1 = k at h1 ⊢
    rw [show t + p - (k + 1) * p = t - k * p by rw [Nat.succ_mul]; omega, Int.natCast_succ, Int.add_mul]
    omega

theorem Good.per {zs : List Int} {p : Nat} {inc : Int} (h : Good zs p inc) (hf : ¬ zs.getD (zs.length - 1) 0 = infV) : Per (atC zs p inc) (zs.length - p) p inc := atC_per h.p1 h.p3 hf

theorem Good.step {zs : List Int} {p : Nat} {inc : Int} (h : Good zs p inc) (t : Nat) : atC zs p inc t ≤ atC zs p inc (t + 1) := by
  by_cases hf : zs.getD (zs.length - 1) 0 = infV
  · by_cases hlt : t + 1 < zs.length
    · rw [atC_lt hlt, atC_lt (by omega)]; exact h.mono t hlt
    · have hp := h.p3; have hp1 := h.p1
      rw [atC_inf hf (by omega) (by omega), atC_inf hf (by omega) (by omega)]; exact Int.le_refl _
  · induction t using Nat.strongRecOn with
    | ind t ih =>
      have hp := h.p3; have hp1 := h.p1
      by_cases hlt : t + 1 < zs.length
      · rw [atC_lt hlt, atC_lt (by omega)]; exact h.mono t hlt
      · by_cases he : t + 1 = zs.length
        · have h1 := h.per hf (zs.length - p) (Nat.le_refl _)
          rw [show zs.length - p + p = t + 1 by omega] at h1
          rw [h1, atC_lt (by omega), atC_lt (by omega), show t = zs.length - 1 by omega]
          exact h.tailF hf
        · have h1 := h.per hf (t - p) (by omega)
          have h2 := h.per hf (t - p + 1) (by omega)
          have h3 := ih (t - p) (by omega)
          rw [show t - p + p = t by omega] at h1
          rw [show t - p + 1 + p = t + 1 by omega] at h2
          omega

theorem Good.up {zs : List Int} {p : Nat} {inc : Int} (h : Good zs p inc) (k t : Nat) : atC zs p inc t ≤ atC zs p inc (t + k) := by
  induction k with
  | zero => exact Int.le_refl _
  | succ k ih => have := h.step (t + k); rw [show t + (k + 1) = t + k + 1 by omega]; omega

theorem Good.bd {zs : List Int} {p : Nat} {inc : Int} (h : Good zs p inc) (hf : ¬ zs.getD (zs.length - 1) 0 = infV) (t : Nat) : 0 ≤ atC zs p inc t ∧ atC zs p inc t ≤ 1073741824 * ((t : Int) + 1) := by
  have h0 := h.i0
  have h1 := h.i1
  induction t using Nat.strongRecOn with
  | ind t ih =>
    have hp := h.p3; have hp1 := h.p1
    by_cases hlt : t < zs.length
    · rw [atC_lt hlt]; have := h.small hf hlt; omega
    · have e := h.per hf (t - p) (by omega)
      have := ih (t - p) (by omega)
      rw [show t - p + p = t by omega] at e
      omega

theorem Good.inf_iff {zs : List Int} {p : Nat} {inc : Int} (h : Good zs p inc) : (∃ i, i < zs.length ∧ zs.getD i 0 = infV) ↔ zs.getD (zs.length - 1) 0 = infV := by
  have hp := h.p3; have hp1 := h.p1
  constructor
  · rintro ⟨i, hi, he⟩
    have h1 := h.le (show i ≤ zs.length - 1 by omega) (by omega)
    have h2 := h.val (zs.length - 1) (by omega)
    unfold infV at *
    omega
  · intro he; exact ⟨zs.length - 1, by omega, he⟩

theorem getD_take {zs : List Int} {m i : Nat} (h : i < m) : (zs.take m).getD i 0 = zs.getD i 0 := by
  simp [List.getD, h]

/-- (zs', p', inc') is the normal form of (zs, p, inc). -/
def NormC (zs : List Int) (p : Nat) (inc : Int) (zs' : List Int) (p' : Nat) (inc' : Int) : Prop :=
  (¬ zs.getD (zs.length - 1) 0 = infV ∧ ∃ s, NormOf (atC zs p inc) s p' inc' ∧ zs' = zs.take (s + p') ∧ s + p' ≤ zs.length ∧ p' ≤ p) ∨
  (∃ i, i < zs.length ∧ zs.getD i 0 = infV ∧ (∀ j, j < i → ¬ zs.getD j 0 = infV) ∧ zs' = zs.take (i + 1) ∧ p' = 1 ∧ inc' = 0)

theorem NormC.values {zs zs' : List Int} {p p' : Nat} {inc inc' : Int} (g : Good zs p inc) (h : NormC zs p inc zs' p' inc') : ∀ t, atC zs' p' inc' t = atC zs p inc t := by
  rcases h with ⟨hf, s, hn, rfl, hle, hpp⟩ | ⟨i, hi, he, hj, rfl, rfl, rfl⟩
  · have hl : (zs.take (s + p')).length = s + p' := by rw [List.length_take]; omega
    have hpos := hn.pos
    have hlast : ¬ (zs.take (s + p')).getD ((zs.take (s + p')).length - 1) 0 = infV := by
      rw [hl, getD_take (by omega)]
      have := g.small hf (show s + p' - 1 < zs.length by omega)
      unfold infV; omega
    have hper := atC_per (inc := inc') hn.pos (show p' ≤ (zs.take (s + p')).length by omega) hlast
    rw [hl, show s + p' - p' = s by omega] at hper
    refine hper.ext hn.per hn.pos fun t ht => ?_
    rw [atC_lt (by omega), getD_take ht, atC_lt (by omega)]
  · have hl : (zs.take (i + 1)).length = i + 1 := by rw [List.length_take]; omega
    have hz : zs.getD (zs.length - 1) 0 = infV := g.inf_iff.1 ⟨i, hi, he⟩
    intro t
    by_cases ht : t < i + 1
    · rw [atC_lt (by omega), getD_take ht, atC_lt (by omega)]
    · rw [atC_inf (by rw [hl, getD_take (by omega)]; exact he) (by omega) (by omega)]
      by_cases hlt : t < zs.length
      · rw [atC_lt hlt]
        have h1 := g.le (show i ≤ t by omega) hlt
        have h2 := g.val t hlt
        unfold infV at *
        omega
      · rw [atC_inf hz (by omega) (by omega)]

theorem NormC.good {zs zs' : List Int} {p p' : Nat} {inc inc' : Int} (g : Good zs p inc) (h : NormC zs p inc zs' p' inc') : Good zs' p' inc' := by
  have hv := h.values g
  rcases h with ⟨hf, s, hn, rfl, hle, hpp⟩ | ⟨i, hi, he, hj, rfl, rfl, rfl⟩
  · have hl : (zs.take (s + p')).length = s + p' := by rw [List.length_take]; omega
    have hpos := hn.pos
    have hinc : inc' = atC zs p inc (zs.length - p + p') - atC zs p inc (zs.length - p) ∧ 0 ≤ inc' ∧ inc' ≤ inc := by
      have h1 := hn.per (zs.length - p + s) (by omega)
      have h0 := (g.per hf).any g.p1 hn.per (zs.length - p) (Nat.le_refl _)
      have h2 := g.up p' (zs.length - p)
      have h3 := g.per hf (zs.length - p) (Nat.le_refl _)
      have h4 := g.up (p - p') (zs.length - p + p')
      rw [show zs.length - p + p' + (p - p') = zs.length - p + p by omega] at h4
      omega
    have hg := g.few; have hp2 := g.p2; have hi1 := g.i1
    refine ⟨by omega, hpos, by omega, by omega, hinc.2.1, by omega, fun i hi => ?_, fun i hi => ?_, fun hx => ?_, fun _ => ?_⟩
    · rw [getD_take (by omega)]; exact g.val i (by omega)
    · rw [getD_take (by omega), getD_take (by omega)]; exact g.mono i (by omega)
    · exfalso
      rw [hl, getD_take (by omega)] at hx
      have := g.small hf (show s + p' - 1 < zs.length by omega)
      unfold infV at hx; omega
    · rw [hl, getD_take (by omega), getD_take (by omega), show s + p' - p' = s by omega]
      have h1 := hn.per s (Nat.le_refl _)
      have h2 := g.step (s + p' - 1)
      rw [show s + p' - 1 + 1 = s + p' by omega] at h2
      rw [atC_lt (show s + p' - 1 < zs.length by omega)] at h2
      rw [atC_lt (show s < zs.length by omega)] at h1
      omega
  · have hl : (zs.take (i + 1)).length = i + 1 := by rw [List.length_take]; omega
    have hg := g.few
    refine ⟨by omega, by omega, by omega, by omega, by omega, by omega, fun j hj => ?_, fun j hj => ?_, fun _ => ⟨rfl, rfl⟩, fun hx => ?_⟩
    · rw [getD_take (by omega)]; exact g.val j (by omega)
    · rw [getD_take (by omega), getD_take (by omega)]; exact g.mono j (by omega)
    · exfalso; apply hx; rw [hl, getD_take (by omega)]; exact he

theorem NormC.fin_iff {zs zs' : List Int} {p p' : Nat} {inc inc' : Int} (g : Good zs p inc) (h : NormC zs p inc zs' p' inc') : zs'.getD (zs'.length - 1) 0 = infV ↔ zs.getD (zs.length - 1) 0 = infV := by
  rcases h with ⟨hf, s, hn, rfl, hle, hpp⟩ | ⟨i, hi, he, hj, rfl, rfl, rfl⟩
  · have hl : (zs.take (s + p')).length = s + p' := by rw [List.length_take]; omega
    have hpos := hn.pos
    rw [hl, getD_take (by omega)]
    have := g.small hf (show s + p' - 1 < zs.length by omega)
    constructor
    · intro hx; unfold infV at hx; omega
    · intro hx; exact absurd hx hf
  · have hl : (zs.take (i + 1)).length = i + 1 := by rw [List.length_take]; omega
    rw [hl, getD_take (by omega)]
    exact ⟨fun _ => g.inf_iff.1 ⟨i, hi, he⟩, fun _ => he⟩

theorem list_ext_getD {a b : List Int} (hl : a.length = b.length) (h : ∀ i, i < a.length → a.getD i 0 = b.getD i 0) : a = b := by
  apply List.ext_getElem hl
  intro i h1 h2
  have := h i h1
  simpa [List.getD, List.getElem?_eq_getElem h1, List.getElem?_eq_getElem h2] using this

/-- Finiteness is seen in the values. -/
theorem Good.inf_at {zs : List Int} {p : Nat} {inc : Int} (g : Good zs p inc) {t : Nat} (ht : (t : Int) ≤ 1048576) : atC zs p inc t = infV → zs.getD (zs.length - 1) 0 = infV := by
  intro h
  refine Classical.byContradiction fun hf => ?_
  have := g.bd hf t
  rw [h] at this
  unfold infV at this
  omega

/-- Two valid curves with the same values have the same normal form. -/
theorem NormC.canon {zs zs' ys ys' : List Int} {p p' q q' : Nat} {inc inc' jnc jnc' : Int} (g : Good zs p inc) (h : NormC zs p inc zs' p' inc') (k : Good ys q jnc) (l : NormC ys q jnc ys' q' jnc')
    (he : ∀ t, atC zs p inc t = atC ys q jnc t) : zs' = ys' ∧ p' = q' ∧ inc' = jnc' := by
  have gv := h.values g
  have lv := l.values k
  have gl := (h.good g)
  have ll := (l.good k)
  have hlen1 := g.few; have hlen2 := k.few
  have hp1 := g.p1; have hp3 := g.p3; have hq1 := k.p1; have hq3 := k.p3
  by_cases hi : zs.getD (zs.length - 1) 0 = infV
  · have hi2 : ys.getD (ys.length - 1) 0 = infV := k.inf_at (t := zs.length - 1) (by omega) (by rw [← he, atC_inf hi (Nat.le_refl _) (by omega)])
    rcases h with ⟨hf, _⟩ | ⟨i, hi', he', hj, rfl, rfl, rfl⟩
    · exact absurd hi hf
    rcases l with ⟨hf, _⟩ | ⟨m, hm, hem, hjm, rfl, rfl, rfl⟩
    · exact absurd hi2 hf
    have hil : ∀ {zs ys : List Int} {p q : Nat} {inc jnc : Int} {i m : Nat}, Good ys q jnc → (∀ t, atC zs p inc t = atC ys q jnc t) → i < zs.length → zs.getD i 0 = infV → m < ys.length → ys.getD m 0 = infV → (∀ j, j < m → ¬ ys.getD j 0 = infV) → ¬ i < m := by
      intro zs ys p q inc jnc i m _ he hi hz hm hy hj hlt
      have h1 := he i
      rw [atC_lt hi, atC_lt (by omega)] at h1
      exact hj i hlt (by rw [← h1]; exact hz)
    have a1 := hil k he hi' he' hm hem hjm
    have a2 := hil g (fun t => (he t).symm) hm hem hi' he' hj
    obtain rfl : i = m := by omega
    refine ⟨list_ext_getD (by rw [List.length_take, List.length_take]; omega) fun j hj' => ?_, rfl, rfl⟩
    rw [List.length_take] at hj'
    rw [getD_take (by omega), getD_take (by omega)]
    have := he j
    rwa [atC_lt (by omega), atC_lt (by omega)] at this
  · have hi2 : ¬ ys.getD (ys.length - 1) 0 = infV := fun hx => hi (g.inf_at (t := ys.length - 1) (by omega) (by rw [he, atC_inf hx (Nat.le_refl _) (by omega)]))
    rcases h with ⟨hf, s, hn, rfl, hle, hpp⟩ | ⟨i, hi', he', hj, rfl, rfl, rfl⟩
    · rcases l with ⟨hf2, s2, hn2, rfl, hle2, hpp2⟩ | ⟨m, hm, hem, hjm, rfl, rfl, rfl⟩
      · have hfe : atC zs p inc = atC ys q jnc := funext he
        rw [← hfe] at hn2
        obtain ⟨rfl, rfl, rfl⟩ := hn.unique hn2
        refine ⟨list_ext_getD (by rw [List.length_take, List.length_take]; omega) fun j hj' => ?_, rfl, rfl⟩
        rw [List.length_take] at hj'
        rw [getD_take (by omega), getD_take (by omega)]
        have := he j
        rwa [atC_lt (by omega), atC_lt (by omega)] at this
      · exact absurd (k.inf_iff.1 ⟨m, hm, hem⟩) hi2
    · exact absurd (g.inf_iff.1 ⟨i, hi', he'⟩) hi

end Go.Proofs.Ythljhddnfflpjaa

namespace Go.Proofs.Ythljhddnfflpjaa

/-- The list of a function's first values. -/
def firsts (f : Nat → Int) (m : Nat) : List Int := (List.range m).map f
theorem firsts_length (f : Nat → Int) (m : Nat) : (firsts f m).length = m := by simp [firsts]
theorem firsts_getD (f : Nat → Int) (m i : Nat) (h : i < m) : (firsts f m).getD i 0 = f i := by simp [firsts, List.getD, h]
theorem firsts_succ (f : Nat → Int) (m : Nat) : firsts f (m + 1) = firsts f m ++ [f m] := by simp [firsts, List.range_succ]
theorem firsts_atC (zs : List Int) (p : Nat) (inc : Int) : firsts (atC zs p inc) zs.length = zs :=
  list_ext_getD (firsts_length _ _) fun i hi => by rw [firsts_length] at hi; rw [firsts_getD _ _ _ hi, atC_lt hi]

theorem Good.grow {zs : List Int} {p : Nat} {inc : Int} (g : Good zs p inc) (hf : ¬ zs.getD (zs.length - 1) 0 = infV) {t : Nat} (ht : zs.length - p ≤ t) (k : Nat) : atC zs p inc (t + k) ≤ atC zs p inc t + (k : Int) * inc := by
  induction k with
  | zero => simp
  | succ k ih =>
    have h1 := g.per hf (t + k) (by omega)
    have h2 := g.up (p - 1) (t + k + 1)
    have hp := g.p1
    rw [show t + k + 1 + (p - 1) = t + k + p by omega] at h2
    rw [show t + (k + 1) = t + k + 1 by omega, Int.natCast_succ, Int.add_mul]
    omega

theorem long_good {zs : List Int} {p : Nat} {inc : Int} (g : Good zs p inc) (hf : ¬ zs.getD (zs.length - 1) 0 = infV) {more times m : Nat} (hm : m = zs.length + more + (times - 1) * p) (ht : 1 ≤ times) (h1 : m ≤ 400) (h2 : p * times ≤ 120) (h3 : inc * (times : Int) ≤ 1073741824)
    (h4 : atC zs p inc (m - 1) ≤ 1073741824) :
    Good (firsts (atC zs p inc) m) (p * times) (inc * (times : Int)) ∧ (¬ (firsts (atC zs p inc) m).getD ((firsts (atC zs p inc) m).length - 1) 0 = infV) ∧ ∀ t, atC (firsts (atC zs p inc) m) (p * times) (inc * (times : Int)) t = atC zs p inc t := by
  have hp := g.p1
  have hp3 := g.p3
  have hi0 := g.i0
  obtain ⟨k, rfl⟩ : ∃ k, times = k + 1 := ⟨times - 1, by omega⟩
  rw [Nat.add_sub_cancel] at hm
  have hpt : p * (k + 1) = k * p + p := by rw [Nat.mul_succ, Nat.mul_comm]
  have hpm : p * (k + 1) ≤ m := by omega
  have hpp : 1 ≤ p * (k + 1) := by omega
  have hle : ∀ i, i < m → 0 ≤ atC zs p inc i ∧ atC zs p inc i ≤ 1073741824 := fun i hi => by
    have h5 := g.up (m - 1 - i) i
    rw [show i + (m - 1 - i) = m - 1 by omega] at h5
    have := (g.bd hf i).1
    omega
  have hlen := firsts_length (atC zs p inc) m
  have hlast : ¬ (firsts (atC zs p inc) m).getD ((firsts (atC zs p inc) m).length - 1) 0 = infV := by
    rw [hlen, firsts_getD _ _ _ (by omega)]
    have := hle (m - 1) (by omega)
    unfold infV; omega
  have hper : Per (atC zs p inc) (m - p * (k + 1)) (p * (k + 1)) (inc * ((k + 1 : Nat) : Int)) := by
    have h6 := (g.per hf).mul (k + 1)
    rw [Nat.mul_comm (k + 1) p, Int.mul_comm] at h6
    exact h6.mono (by omega)
  have hg : Good (firsts (atC zs p inc) m) (p * (k + 1)) (inc * ((k + 1 : Nat) : Int)) := by
    refine ⟨by omega, hpp, h2, by omega, Int.mul_nonneg hi0 (by omega), h3, fun i hi => ?_, fun i hi => ?_, fun hx => absurd hx hlast, fun _ => ?_⟩
    · rw [hlen] at hi; rw [firsts_getD _ _ _ hi]; exact .inl (hle i hi)
    · rw [hlen] at hi; rw [firsts_getD _ _ _ (by omega), firsts_getD _ _ _ hi]; exact g.step i
    · rw [hlen, firsts_getD _ _ _ (by omega), firsts_getD _ _ _ (by omega)]
      have h7 := hper (m - p * (k + 1)) (Nat.le_refl _)
      have h8 := g.up 1 (m - 1)
      rw [show m - 1 + 1 = m by omega] at h8
      rw [show m - p * (k + 1) + p * (k + 1) = m by omega] at h7
      omega
  refine ⟨hg, hlast, ?_⟩
  have hq := hg.per hlast
  rw [hlen] at hq
  refine hq.ext hper hpp fun t ht => ?_
  rw [atC_lt (by omega), firsts_getD _ _ _ (by omega)]

/-- What the values that are drawn keep to while a curve is made. -/
def SeqOk0 (zs : List Int) (v : Int) : Prop :=
  (∀ i, i < zs.length → 0 ≤ zs.getD i 0 ∧ zs.getD i 0 ≤ v) ∧ (∀ i, i + 1 < zs.length → zs.getD i 0 ≤ zs.getD (i + 1) 0) ∧ 0 ≤ v ∧ v ≤ 3 + 9 * (zs.length : Int)

/-- They grow by at most 9 a tick. -/
def SeqStep (zs : List Int) (v : Int) : Prop :=
  (∀ i, i + 1 < zs.length → zs.getD (i + 1) 0 ≤ zs.getD i 0 + 9) ∧ (∀ i, i < zs.length → zs.getD i 0 ≤ 3 + 9 * (i : Int)) ∧ (∀ i, i + 1 = zs.length → v ≤ zs.getD i 0 + 9)
def SeqOk (zs : List Int) (v : Int) : Prop := SeqOk0 zs v ∧ SeqStep zs v

theorem SeqOk.nil {v : Int} (h0 : 0 ≤ v) (h3 : v ≤ 3) : SeqOk [] v := ⟨⟨fun i hi => absurd hi (Nat.not_lt_zero _), fun i hi => absurd hi (Nat.not_lt_zero _), h0, by simp; exact h3⟩, fun i hi => absurd hi (Nat.not_lt_zero _), fun i hi => absurd hi (Nat.not_lt_zero _), fun i hi => by simp at hi⟩

theorem getD_append_lt {zs : List Int} {v : Int} {i : Nat} (h : i < zs.length) : (zs ++ [v]).getD i 0 = zs.getD i 0 := by
  simp [List.getD, List.getElem?_append_left h]
theorem getD_append_eq {zs : List Int} {v : Int} : (zs ++ [v]).getD zs.length 0 = v := by simp [List.getD]

theorem SeqOk.snoc {zs : List Int} {v d : Int} (h : SeqOk zs v) (h0 : 0 ≤ d) (h9 : d ≤ 9) : SeqOk (zs ++ [v]) (v + d) := by
  obtain ⟨⟨h1, h2, h3, h4⟩, s1, s2, s3⟩ := h
  have hl : (zs ++ [v]).length = zs.length + 1 := by simp
  refine ⟨⟨fun i hi => ?_, fun i hi => ?_, by omega, by rw [hl]; omega⟩, fun i hi => ?_, fun i hi => ?_, fun i hi => ?_⟩
  · rw [hl] at hi
    by_cases he : i = zs.length
    · subst he; rw [getD_append_eq]; omega
    · rw [getD_append_lt (by omega)]; have := h1 i (by omega); omega
  · rw [hl] at hi
    by_cases he : i + 1 = zs.length
    · rw [he, getD_append_eq, getD_append_lt (by omega)]; exact (h1 i (by omega)).2
    · rw [getD_append_lt (by omega), getD_append_lt (by omega)]; exact h2 i (by omega)
  · rw [hl] at hi
    by_cases he : i + 1 = zs.length
    · rw [he, getD_append_eq, getD_append_lt (by omega)]; exact s3 i he
    · rw [getD_append_lt (by omega), getD_append_lt (by omega)]; exact s1 i (by omega)
  · rw [hl] at hi
    by_cases he : i = zs.length
    · subst he; rw [getD_append_eq]; exact h4
    · rw [getD_append_lt (by omega)]; exact s2 i (by omega)
  · rw [hl] at hi
    obtain rfl : i = zs.length := by omega
    rw [getD_append_eq]; omega

/-- A curve that was drawn: valid and small. -/
structure OkCur (most : Nat) (zs : List Int) (p : Nat) (inc : Int) : Prop where
  good : Good zs p inc
  few : zs.length ≤ most + 7
  p8 : p ≤ 8
  slow : ¬ zs.getD (zs.length - 1) 0 = infV → ∀ t, atC zs p inc t ≤ 3 + 9 * (t : Int)
  twelve : ¬ zs.getD (zs.length - 1) 0 = infV → ∃ c, Per (atC zs p inc) (most - 1) 12 c
  inc : inc ≤ 1000
  val : ∀ i, i < zs.length → zs.getD i 0 ≤ 10000 ∨ zs.getD i 0 = infV
  div : 24 % p = 0

theorem per12 {f : Nat → Int} {s p : Nat} {c : Int} (h : Per f s p c) (h1 : 1 ≤ p) (h4 : p ≤ 4) : ∃ c, Per f s 12 c := by
  have hp : p = 1 ∨ p = 2 ∨ p = 3 ∨ p = 4 := by omega
  rcases hp with rfl | rfl | rfl | rfl
  · exact ⟨_, h.mul 12⟩
  · exact ⟨_, h.mul 6⟩
  · exact ⟨_, h.mul 4⟩
  · exact ⟨_, h.mul 3⟩
theorem div24 {p : Nat} (h1 : 1 ≤ p) (h4 : p ≤ 4) {k : Nat} (k1 : 1 ≤ k) (k2 : k ≤ 2) : 24 % (p * k) = 0 := by
  have hp : p = 1 ∨ p = 2 ∨ p = 3 ∨ p = 4 := by omega
  have hk : k = 1 ∨ k = 2 := by omega
  rcases hp with rfl | rfl | rfl | rfl <;> rcases hk with rfl | rfl <;> rfl

theorem step_le {zs : List Int} (h : ∀ i, i + 1 < zs.length → zs.getD (i + 1) 0 ≤ zs.getD i 0 + 9) : ∀ k i, i + k < zs.length → zs.getD (i + k) 0 ≤ zs.getD i 0 + 9 * (k : Int) := by
  intro k
  induction k with
  | zero => intro i _; simp
  | succ k ih =>
    intro i hi
    have h1 := ih i (by omega)
    have h2 := h (i + k) (by omega)
    rw [show i + (k + 1) = i + k + 1 by omega]
    omega
/-- A curve that grows by at most 9 a tick while it is listed, and by less than 9 a tick in its period. -/
theorem slow_of {zs : List Int} {p : Nat} {inc : Int} (g : Good zs p inc) (hf : ¬ zs.getD (zs.length - 1) 0 = infV) (h : ∀ i, i < zs.length → zs.getD i 0 ≤ 3 + 9 * (i : Int)) (hi : inc ≤ 9 * (p : Int)) : ∀ t, atC zs p inc t ≤ 3 + 9 * (t : Int) := by
  intro t
  induction t using Nat.strongRecOn with
  | ind t ih =>
    have hp := g.p3; have hp1 := g.p1
    by_cases hlt : t < zs.length
    · rw [atC_lt hlt]; exact h t hlt
    · have e := g.per hf (t - p) (by omega)
      have := ih (t - p) (by omega)
      rw [show t - p + p = t by omega] at e
      omega

theorem okCur_plain {most : Nat} (hm : most ≤ 9) {zs : List Int} {v : Int} (h : SeqOk zs v) {n : Nat} (hn : zs.length = n) (h1 : 1 ≤ n) (h2 : n ≤ most) {p : Nat} (hp1 : 1 ≤ p) (hp4 : p ≤ 4) (hpn : p ≤ n) {d : Int} (hd0 : 0 ≤ d) (hd8 : d ≤ 8) :
    OkCur most zs p (zs.getD (n - 1) 0 - zs.getD (n - p) 0 + d) ∧ (¬ zs.getD (zs.length - 1) 0 = infV) ∧ 0 ≤ zs.getD (n - 1) 0 - zs.getD (n - p) 0 + d ∧ zs.getD (n - 1) 0 - zs.getD (n - p) 0 + d ≤ 100 ∧ (∀ i, i < n → 0 ≤ zs.getD i 0 ∧ zs.getD i 0 ≤ 84) := by
  subst hn
  obtain ⟨⟨g1, g2, g3, g4⟩, s1, s2, s3⟩ := h
  have hb : ∀ i, i < zs.length → 0 ≤ zs.getD i 0 ∧ zs.getD i 0 ≤ 84 := fun i hi => by
    have := g1 i hi
    omega
  have a1 := hb (zs.length - 1) (by omega)
  have a2 := hb (zs.length - p) (by omega)
  have a3 := mono_le g2 (p - 1) (zs.length - p) (by omega)
  rw [show zs.length - p + (p - 1) = zs.length - 1 by omega] at a3
  have hlast : ¬ zs.getD (zs.length - 1) 0 = infV := by unfold infV; omega
  have hgood : Good zs p (zs.getD (zs.length - 1) 0 - zs.getD (zs.length - p) 0 + d) := ⟨by omega, hp1, by omega, by omega, by omega, by omega, fun i hi => by have := hb i hi; exact .inl ⟨this.1, by omega⟩, g2, fun hx => absurd hx hlast, fun _ => by omega⟩
  have hst := step_le s1 (p - 1) (zs.length - p) (by omega)
  rw [show zs.length - p + (p - 1) = zs.length - 1 by omega] at hst
  refine ⟨⟨hgood, by omega, by omega, fun hf => slow_of hgood hf s2 (by omega), fun hf => per12 ((hgood.per hf).mono (by omega)) hp1 hp4, by omega, fun i hi => ?_, by have := div24 hp1 hp4 (k := 1) (by omega) (by omega); rwa [Nat.mul_one] at this⟩, hlast, by omega, by omega, hb⟩
  · have := hb i hi; exact .inl (by omega)

theorem okCur_inf {most : Nat} (hm : most ≤ 9) {zs : List Int} {v : Int} (h : SeqOk zs v) (h2 : zs.length ≤ most) : OkCur most (zs ++ [infV]) 1 0 := by
  obtain ⟨⟨g1, g2, g3, g4⟩, s1, s2, s3⟩ := h
  have hl : (zs ++ [infV]).length = zs.length + 1 := by simp
  have hb : ∀ i, i < zs.length → 0 ≤ zs.getD i 0 ∧ zs.getD i 0 ≤ 84 := fun i hi => by
    have := g1 i hi
    omega
  refine ⟨⟨by omega, by omega, by omega, by omega, by omega, by omega, fun i hi => ?_, fun i hi => ?_, fun _ => ⟨rfl, rfl⟩, fun hx => ?_⟩, by omega, by omega, fun hf => absurd (by rw [hl, Nat.add_sub_cancel, getD_append_eq]) hf, fun hf => absurd (by rw [hl, Nat.add_sub_cancel, getD_append_eq]) hf, by omega, fun i hi => ?_, by decide⟩
  · rw [hl] at hi
    by_cases he : i = zs.length
    · subst he; rw [getD_append_eq]; exact .inr rfl
    · rw [getD_append_lt (by omega)]; have := hb i (by omega); exact .inl ⟨this.1, by omega⟩
  · rw [hl] at hi
    by_cases he : i + 1 = zs.length
    · rw [he, getD_append_eq, getD_append_lt (by omega)]; have := hb i (by omega); unfold infV; omega
    · rw [getD_append_lt (by omega), getD_append_lt (by omega)]; exact g2 i (by omega)
  · exact absurd (by rw [hl, Nat.add_sub_cancel, getD_append_eq]) hx
  · rw [hl] at hi
    by_cases he : i = zs.length
    · subst he; rw [getD_append_eq]; exact .inr rfl
    · rw [getD_append_lt (by omega)]; have := hb i (by omega); exact .inl (by omega)

theorem okCur_long {most : Nat} (hm : most ≤ 9) {zs : List Int} {p : Nat} {inc : Int} (o : OkCur most zs p inc) (hf : ¬ zs.getD (zs.length - 1) 0 = infV) (h2 : zs.length ≤ most) (hp : p ≤ 4) (hinc : inc ≤ 100) (hb : ∀ i, i < zs.length → 0 ≤ zs.getD i 0 ∧ zs.getD i 0 ≤ 84)
    {more times m : Nat} (hmore : more ≤ 3) (ht : 1 ≤ times) (ht2 : times ≤ 2) (hme : m = zs.length + more + (times - 1) * p) :
    OkCur most (firsts (atC zs p inc) m) (p * times) (inc * (times : Int)) := by
  have g := o.good
  have hp1 := g.p1
  have hp3 := g.p3
  have hi0 := g.i0
  have h12 : (times - 1) * p ≤ 4 := by
    have : times = 1 ∨ times = 2 := by omega
    rcases this with rfl | rfl <;> omega
  have hpt : p * times ≤ 8 := by
    have : times = 1 ∨ times = 2 := by omega
    rcases this with rfl | rfl <;> omega
  have hit : inc * (times : Int) ≤ 200 := by
    have : times = 1 ∨ times = 2 := by omega
    rcases this with rfl | rfl <;> omega
  have hmax : ∀ i, i < m → atC zs p inc i ≤ 1000 := fun i hi => by
    by_cases hlt : i < zs.length
    · rw [atC_lt hlt]; have := hb i hlt; omega
    · have h5 := g.grow hf (t := zs.length - 1) (by omega) (i - (zs.length - 1))
      rw [show zs.length - 1 + (i - (zs.length - 1)) = i by omega, atC_lt (show zs.length - 1 < zs.length by omega)] at h5
      have h6 := hb (zs.length - 1) (by omega)
      have h7 : ((i - (zs.length - 1) : Nat) : Int) * inc ≤ 7 * 100 := Int.mul_le_mul (by omega) hinc hi0 (by omega)
      omega
  obtain ⟨g1, g2, g3⟩ := long_good g hf hme ht (by omega) (by omega) (by omega) (by have := hmax (m - 1) (by omega); omega)
  refine ⟨g1, by rw [firsts_length]; omega, hpt, fun _ t => by rw [g3 t]; exact o.slow hf t, fun _ => by
    obtain ⟨c, h⟩ := o.twelve hf
    exact ⟨c, fun t ht => by rw [g3, g3]; exact h t ht⟩, by omega, fun i hi => ?_, div24 hp1 hp ht ht2⟩
  rw [firsts_length] at hi
  rw [firsts_getD _ _ _ hi]
  have := hmax i hi
  exact .inl (by omega)

end Go.Proofs.Ythljhddnfflpjaa
