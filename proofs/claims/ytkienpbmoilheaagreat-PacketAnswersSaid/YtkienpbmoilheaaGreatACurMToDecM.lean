/- The mathematics of curves: functions that are periodic but for a constant, their least period and start. Nothing here speaks of the program. By the verifier's side. -/
import Derived.Lib.Hide
namespace Go.Proofs.YtkienpbmoilheaaGreat

/-- From s on, p ticks later f is c more. -/
def Per (f : Nat → Int) (s p : Nat) (c : Int) : Prop := ∀ t, s ≤ t → f (t + p) = f t + c

theorem Per.mono {f : Nat → Int} {s s' p : Nat} {c : Int} (h : Per f s p c) (hs : s ≤ s') : Per f s' p c := fun t ht => h t (Nat.le_trans hs ht)

theorem Per.mul {f : Nat → Int} {s p : Nat} {c : Int} (h : Per f s p c) (k : Nat) : Per f s (k * p) ((k : Int) * c) := by
  induction k with
  | zero => intro t _; simp
  | succ k ih =>
    intro t ht
    have e : t + (k + 1) * p = (t + k * p) + p := by rw [Nat.succ_mul, Nat.add_assoc]
    rw [e, h _ (by omega), ih t ht, Int.natCast_succ, Int.add_mul]
    omega

theorem Per.same {f : Nat → Int} {s p : Nat} {c d : Int} (h : Per f s p c) (k : Per f s p d) : c = d := by
  have h1 := h s (Nat.le_refl _)
  have h2 := k s (Nat.le_refl _)
  omega

/-- What holds for one known period holds for all ticks. -/
theorem Per.upto {f : Nat → Int} {s P p : Nat} {I c : Int} (h : Per f s P I) (hP : 1 ≤ P) (hc : ∀ t, s ≤ t → t < s + P → f (t + p) = f t + c) : Per f s p c := by
  intro t
  induction t using Nat.strongRecOn with
  | ind t ih =>
    intro ht
    by_cases hlt : t < s + P
    · exact hc t ht hlt
    · obtain ⟨u, rfl⟩ : ∃ u, t = u + P := ⟨t - P, by omega⟩
      have h1 := ih u (by omega) (by omega)
      have h2 := h u (by omega)
      have h3 := h (u + p) (by omega)
      rw [show u + P + p = u + p + P by omega]
      omega

/-- A period from somewhere on is one from each start of another period. -/
theorem Per.any {f : Nat → Int} {s s2 P p : Nat} {I c : Int} (h : Per f s P I) (hP : 1 ≤ P) (k : Per f s2 p c) : Per f s p c := by
  intro t ht
  have h1 := (h.mul s2) t ht
  have h2 := (h.mul s2) (t + p) (by omega)
  have hle : s2 ≤ s2 * P := Nat.le_mul_of_pos_right _ (by omega)
  have h3 := k (t + s2 * P) (by omega)
  rw [show t + p + s2 * P = t + s2 * P + p by omega] at h2
  omega

theorem Per.mod {f : Nat → Int} {s P p : Nat} {I c : Int} (h : Per f s P I) (k : Per f s p c) : Per f s (P % p) (I - ((P / p : Nat) : Int) * c) := by
  intro t ht
  have h1 := h t ht
  have h2 := (k.mul (P / p)) (t + P % p) (by omega)
  have e : t + P % p + P / p * p = t + P := by
    have h3 := Nat.mod_add_div P p
    rw [Nat.mul_comm] at h3
    omega
  rw [e] at h2
  omega

theorem Per.ext {f g : Nat → Int} {s p : Nat} {c : Int} (h : Per f s p c) (k : Per g s p c) (hp : 1 ≤ p) (he : ∀ t, t < s + p → f t = g t) : ∀ t, f t = g t := by
  intro t
  induction t using Nat.strongRecOn with
  | ind t ih =>
    by_cases hlt : t < s + p
    · exact he t hlt
    · obtain ⟨u, rfl⟩ : ∃ u, t = u + p := ⟨t - p, by omega⟩
      rw [h u (by omega), k u (by omega), ih u (by omega)]

/-- The least period, and the least start of it. -/
structure NormOf (f : Nat → Int) (s p : Nat) (c : Int) : Prop where
  per : Per f s p c
  pos : 1 ≤ p
  least : ∀ q, 1 ≤ q → q < p → ∀ s' c', ¬ Per f s' q c'
  start : s = 0 ∨ ¬ f (s - 1 + p) = f (s - 1) + c

theorem NormOf.unique {f : Nat → Int} {s s' p p' : Nat} {c c' : Int} (h : NormOf f s p c) (k : NormOf f s' p' c') : s = s' ∧ p = p' ∧ c = c' := by
  have hp : p = p' := by
    rcases Nat.lt_trichotomy p p' with hl | he | hl
    · exact absurd h.per (k.least p h.pos hl _ _)
    · exact he
    · exact absurd k.per (h.least p' k.pos hl _ _)
  subst hp
  have hc : c = c' := h.per.same (h.per.any h.pos k.per)
  subst hc
  have a1 : ∀ {s s' : Nat}, NormOf f s p c → NormOf f s' p c → ¬ s < s' := fun {s s'} h k hlt => by
    rcases k.start with h0 | hn
    · omega
    · exact hn (h.per (s' - 1) (by omega))
  have b1 := a1 h k
  have b2 := a1 k h
  exact ⟨by omega, rfl, rfl⟩

/-- The test of a period over one known period. -/
def GrowsAt (f : Nat → Int) (s P q : Nat) : Prop := ∀ t, s + 1 ≤ t → t < s + P → f (t + q) - f t = f (s + q) - f s

theorem grows_iff {f : Nat → Int} {s P q : Nat} {I : Int} (h : Per f s P I) (hP : 1 ≤ P) : GrowsAt f s P q ↔ ∃ s' c, Per f s' q c := by
  constructor
  · intro hg
    refine ⟨s, f (s + q) - f s, h.upto hP fun t h1 h2 => ?_⟩
    by_cases he : t = s
    · subst he; omega
    · have := hg t (by omega) h2; omega
  · rintro ⟨s', c, hk⟩ t h1 _
    have hq := h.any hP hk
    have e1 := hq t (by omega)
    have e2 := hq s (Nat.le_refl _)
    omega

/-- What the search for the least period and the least start finds. -/
theorem normOf_found {f : Nat → Int} {s s' P r : Nat} {I : Int} (h : Per f s P I) (hP : 1 ≤ P) (hr1 : 1 ≤ r) (hr2 : r ≤ P) (hg : r < P → GrowsAt f s P r)
    (hl : ∀ q, 1 ≤ q → q < r → ¬ GrowsAt f s P q) (_hs : s' ≤ s) (ht : ∀ t, s' ≤ t → t < s → f (t + r) - f t = f (s + r) - f s)
    (he : s' = 0 ∨ ¬ f (s' - 1 + r) - f (s' - 1) = f (s + r) - f s) : NormOf f s' r (f (s + r) - f s) := by
  have hp : Per f s r (f (s + r) - f s) := by
    by_cases hlt : r < P
    · obtain ⟨s2, c, hk⟩ := (grows_iff h hP).1 (hg hlt)
      have hq := h.any hP hk
      have := hq s (Nat.le_refl _)
      rw [show f (s + r) - f s = c by omega]
      exact hq
    · obtain rfl : r = P := by omega
      have := h s (Nat.le_refl _)
      rw [show f (s + r) - f s = I by omega]
      exact h
  refine ⟨fun t h1 => ?_, hr1, fun q h1 h2 s2 c hk => hl q h1 h2 ((grows_iff h hP).2 ⟨s2, c, hk⟩), ?_⟩
  · by_cases hlt : t < s
    · have := ht t h1 hlt; omega
    · exact hp t (by omega)
  · rcases he with h0 | hn
    · exact .inl h0
    · exact .inr (by omega)

/-- The least period divides each other one, and has its share of the growth. -/
theorem NormOf.divides {f : Nat → Int} {s s' p P : Nat} {c I : Int} (h : NormOf f s p c) (k : Per f s' P I) : P % p = 0 ∧ I = ((P / p : Nat) : Int) * c := by
  have hk := h.per.any h.pos k
  have hm := hk.mod h.per
  have hlt := Nat.mod_lt P h.pos
  have h0 : P % p = 0 := by
    rcases Nat.eq_zero_or_pos (P % p) with h0 | hpos
    · exact h0
    · exact absurd hm (h.least _ hpos hlt _ _)
  refine ⟨h0, ?_⟩
  rw [h0] at hm
  have := hm s (Nat.le_refl _)
  rw [Nat.add_zero] at this
  omega

/-! ## A curve's values -/

abbrev infV : Int := 4611686018427387904
/-- The value at a tick. -/
def atC (zs : List Int) (p : Nat) (inc : Int) (t : Nat) : Int :=
  if t < zs.length then zs.getD t 0
  else if zs.getD (zs.length - 1) 0 = infV then infV
  else zs.getD (t - ((t - zs.length) / p + 1) * p) 0 + (((t - zs.length) / p + 1 : Nat) : Int) * inc

/-- A valid curve. -/
structure Good (zs : List Int) (p : Nat) (inc : Int) : Prop where
  few : zs.length ≤ 400
  p1 : 1 ≤ p
  p2 : p ≤ 120
  p3 : p ≤ zs.length
  i0 : 0 ≤ inc
  i1 : inc ≤ 1073741824
  val : ∀ i, i < zs.length → (0 ≤ zs.getD i 0 ∧ zs.getD i 0 ≤ 1073741824) ∨ zs.getD i 0 = infV
  mono : ∀ i, i + 1 < zs.length → zs.getD i 0 ≤ zs.getD (i + 1) 0
  tailI : zs.getD (zs.length - 1) 0 = infV → p = 1 ∧ inc = 0
  tailF : ¬ zs.getD (zs.length - 1) 0 = infV → zs.getD (zs.length - 1) 0 ≤ zs.getD (zs.length - p) 0 + inc

theorem mono_le {zs : List Int} (hm : ∀ i, i + 1 < zs.length → zs.getD i 0 ≤ zs.getD (i + 1) 0) : ∀ k i, i + k < zs.length → zs.getD i 0 ≤ zs.getD (i + k) 0 := by
  intro k
  induction k with
  | zero => intro i _; exact Int.le_refl _
  | succ k ih =>
    intro i hi
    have h1 := ih i (by omega)
    have h2 := hm (i + k) (by omega)
    rw [show i + (k + 1) = i + k + 1 by omega]
    omega

theorem Good.le {zs : List Int} {p : Nat} {inc : Int} (h : Good zs p inc) {i j : Nat} (hij : i ≤ j) (hj : j < zs.length) : zs.getD i 0 ≤ zs.getD j 0 := by
  have := mono_le h.mono (j - i) i (by omega)
  rwa [show i + (j - i) = j by omega] at this

/-- Of a finite curve all Values are small. -/
theorem Good.small {zs : List Int} {p : Nat} {inc : Int} (h : Good zs p inc) (hf : ¬ zs.getD (zs.length - 1) 0 = infV) {i : Nat} (hi : i < zs.length) : 0 ≤ zs.getD i 0 ∧ zs.getD i 0 ≤ 1073741824 := by
  have h1 := h.le (show i ≤ zs.length - 1 by omega) (by omega)
  have h2 := h.val i hi
  have h3 := h.val (zs.length - 1) (by omega)
  unfold infV at *
  omega

theorem atC_lt {zs : List Int} {p : Nat} {inc : Int} {t : Nat} (h : t < zs.length) : atC zs p inc t = zs.getD t 0 := by unfold atC; rw [if_pos h]

theorem atC_inf {zs : List Int} {p : Nat} {inc : Int} (hi : zs.getD (zs.length - 1) 0 = infV) {t : Nat} (ht : zs.length - 1 ≤ t) (h0 : 1 ≤ zs.length) : atC zs p inc t = infV := by
  unfold atC
  by_cases h : t < zs.length
  · rw [if_pos h, show t = zs.length - 1 by omega, hi]
  · rw [if_neg h, if_pos hi]

theorem idx_facts {n p t : Nat} (hp : 1 ≤ p) (hpn : p ≤ n) (ht : n ≤ t) : ((t - n) / p + 1) * p ≤ t ∧ n - p ≤ t - ((t - n) / p + 1) * p ∧ t - ((t - n) / p + 1) * p < n := by
  have h1 := Nat.mod_add_div (t - n) p
  have h2 := Nat.mod_lt (t - n) hp
  have e : ((t - n) / p + 1) * p = p * ((t - n) / p) + p := by rw [Nat.succ_mul, Nat.mul_comm]
  rw [e]
  omega

theorem atC_ge {zs : List Int} {p : Nat} {inc : Int} {t : Nat} (hf : ¬ zs.getD (zs.length - 1) 0 = infV) (h : zs.length ≤ t) :
    atC zs p inc t = zs.getD (t - ((t - zs.length) / p + 1) * p) 0 + (((t - zs.length) / p + 1 : Nat) : Int) * inc := by
  unfold atC; rw [if_neg (by omega), if_neg hf]

theorem atC_per {zs : List Int} {p : Nat} {inc : Int} (hp : 1 ≤ p) (hpn : p ≤ zs.length) (hf : ¬ zs.getD (zs.length - 1) 0 = infV) : Per (atC zs p inc) (zs.length - p) p inc := by
  intro t ht
  rw [atC_ge hf (show zs.length ≤ t + p by omega)]
  by_cases hlt : t < zs.length
  · rw [atC_lt hlt]
    have e : (t + p - zs.length) / p = 0 := Nat.div_eq_of_lt (by omega)
    rw [e, show t + p - (0 + 1) * p = t by omega]
    simp
  · rw [atC_ge hf (by omega)]
    have e : (t + p - zs.length) / p = (t - zs.length) / p + 1 := by
      rw [show t + p - zs.length = (t - zs.length) + p by omega, Nat.add_div_right _ hp]
    obtain ⟨h1, _, _⟩ := idx_facts hp hpn (show zs.length ≤ t by omega)
    rw [e]
    generalize (t - zs.length) / p + 1 = k at h1 ⊢
    rw [show t + p - (k + 1) * p = t - k * p by rw [Nat.succ_mul]; omega, Int.natCast_succ, Int.add_mul]
    omega

theorem Good.per {zs : List Int} {p : Nat} {inc : Int} (h : Good zs p inc) (hf : ¬ zs.getD (zs.length - 1) 0 = infV) : Per (atC zs p inc) (zs.length - p) p inc := atC_per h.p1 h.p3 hf

theorem Good.step {zs : List Int} {p : Nat} {inc : Int} (h : Good zs p inc) (t : Nat) : atC zs p inc t ≤ atC zs p inc (t + 1) := by
  by_cases hf : zs.getD (zs.length - 1) 0 = infV
  · by_cases hlt : t + 1 < zs.length
    · rw [atC_lt hlt, atC_lt (by omega)]; exact h.mono t hlt
    · have hp := h.p3; have hp1 := h.p1
      rw [atC_inf hf (by omega) (by omega), atC_inf hf (by omega) (by omega)]; exact Int.le_refl _
  · induction t using Nat.strongRecOn with
    | ind t ih =>
      have hp := h.p3; have hp1 := h.p1
      by_cases hlt : t + 1 < zs.length
      · rw [atC_lt hlt, atC_lt (by omega)]; exact h.mono t hlt
      · by_cases he : t + 1 = zs.length
        · have h1 := h.per hf (zs.length - p) (Nat.le_refl _)
          rw [show zs.length - p + p = t + 1 by omega] at h1
          rw [h1, atC_lt (by omega), atC_lt (by omega), show t = zs.length - 1 by omega]
          exact h.tailF hf
        · have h1 := h.per hf (t - p) (by omega)
          have h2 := h.per hf (t - p + 1) (by omega)
          have h3 := ih (t - p) (by omega)
          rw [show t - p + p = t by omega] at h1
          rw [show t - p + 1 + p = t + 1 by omega] at h2
          omega

theorem Good.up {zs : List Int} {p : Nat} {inc : Int} (h : Good zs p inc) (k t : Nat) : atC zs p inc t ≤ atC zs p inc (t + k) := by
  induction k with
  | zero => exact Int.le_refl _
  | succ k ih => have := h.step (t + k); rw [show t + (k + 1) = t + k + 1 by omega]; omega

theorem Good.bd {zs : List Int} {p : Nat} {inc : Int} (h : Good zs p inc) (hf : ¬ zs.getD (zs.length - 1) 0 = infV) (t : Nat) : 0 ≤ atC zs p inc t ∧ atC zs p inc t ≤ 1073741824 * ((t : Int) + 1) := by
  have h0 := h.i0
  have h1 := h.i1
  induction t using Nat.strongRecOn with
  | ind t ih =>
    have hp := h.p3; have hp1 := h.p1
    by_cases hlt : t < zs.length
    · rw [atC_lt hlt]; have := h.small hf hlt; omega
    · have e := h.per hf (t - p) (by omega)
      have := ih (t - p) (by omega)
      rw [show t - p + p = t by omega] at e
      omega

theorem Good.inf_iff {zs : List Int} {p : Nat} {inc : Int} (h : Good zs p inc) : (∃ i, i < zs.length ∧ zs.getD i 0 = infV) ↔ zs.getD (zs.length - 1) 0 = infV := by
  have hp := h.p3; have hp1 := h.p1
  constructor
  · rintro ⟨i, hi, he⟩
    have h1 := h.le (show i ≤ zs.length - 1 by omega) (by omega)
    have h2 := h.val (zs.length - 1) (by omega)
    unfold infV at *
    omega
  · intro he; exact ⟨zs.length - 1, by omega, he⟩

theorem getD_take {zs : List Int} {m i : Nat} (h : i < m) : (zs.take m).getD i 0 = zs.getD i 0 := by
  simp [List.getD, h]

/-- (zs', p', inc') is the normal form of (zs, p, inc). -/
def NormC (zs : List Int) (p : Nat) (inc : Int) (zs' : List Int) (p' : Nat) (inc' : Int) : Prop :=
  (¬ zs.getD (zs.length - 1) 0 = infV ∧ ∃ s, NormOf (atC zs p inc) s p' inc' ∧ zs' = zs.take (s + p') ∧ s + p' ≤ zs.length ∧ p' ≤ p) ∨
  (∃ i, i < zs.length ∧ zs.getD i 0 = infV ∧ (∀ j, j < i → ¬ zs.getD j 0 = infV) ∧ zs' = zs.take (i + 1) ∧ p' = 1 ∧ inc' = 0)

theorem NormC.values {zs zs' : List Int} {p p' : Nat} {inc inc' : Int} (g : Good zs p inc) (h : NormC zs p inc zs' p' inc') : ∀ t, atC zs' p' inc' t = atC zs p inc t := by
  rcases h with ⟨hf, s, hn, rfl, hle, hpp⟩ | ⟨i, hi, he, hj, rfl, rfl, rfl⟩
  · have hl : (zs.take (s + p')).length = s + p' := by rw [List.length_take]; omega
    have hpos := hn.pos
    have hlast : ¬ (zs.take (s + p')).getD ((zs.take (s + p')).length - 1) 0 = infV := by
      rw [hl, getD_take (by omega)]
      have := g.small hf (show s + p' - 1 < zs.length by omega)
      unfold infV; omega
    have hper := atC_per (inc := inc') hn.pos (show p' ≤ (zs.take (s + p')).length by omega) hlast
    rw [hl, show s + p' - p' = s by omega] at hper
    refine hper.ext hn.per hn.pos fun t ht => ?_
    rw [atC_lt (by omega), getD_take ht, atC_lt (by omega)]
  · have hl : (zs.take (i + 1)).length = i + 1 := by rw [List.length_take]; omega
    have hz : zs.getD (zs.length - 1) 0 = infV := g.inf_iff.1 ⟨i, hi, he⟩
    intro t
    by_cases ht : t < i + 1
    · rw [atC_lt (by omega), getD_take ht, atC_lt (by omega)]
    · rw [atC_inf (by rw [hl, getD_take (by omega)]; exact he) (by omega) (by omega)]
      by_cases hlt : t < zs.length
      · rw [atC_lt hlt]
        have h1 := g.le (show i ≤ t by omega) hlt
        have h2 := g.val t hlt
        unfold infV at *
        omega
      · rw [atC_inf hz (by omega) (by omega)]

theorem NormC.good {zs zs' : List Int} {p p' : Nat} {inc inc' : Int} (g : Good zs p inc) (h : NormC zs p inc zs' p' inc') : Good zs' p' inc' := by
  have hv := h.values g
  rcases h with ⟨hf, s, hn, rfl, hle, hpp⟩ | ⟨i, hi, he, hj, rfl, rfl, rfl⟩
  · have hl : (zs.take (s + p')).length = s + p' := by rw [List.length_take]; omega
    have hpos := hn.pos
    have hinc : inc' = atC zs p inc (zs.length - p + p') - atC zs p inc (zs.length - p) ∧ 0 ≤ inc' ∧ inc' ≤ inc := by
      have h1 := hn.per (zs.length - p + s) (by omega)
      have h0 := (g.per hf).any g.p1 hn.per (zs.length - p) (Nat.le_refl _)
      have h2 := g.up p' (zs.length - p)
      have h3 := g.per hf (zs.length - p) (Nat.le_refl _)
      have h4 := g.up (p - p') (zs.length - p + p')
      rw [show zs.length - p + p' + (p - p') = zs.length - p + p by omega] at h4
      omega
    have hg := g.few; have hp2 := g.p2; have hi1 := g.i1
    refine ⟨by omega, hpos, by omega, by omega, hinc.2.1, by omega, fun i hi => ?_, fun i hi => ?_, fun hx => ?_, fun _ => ?_⟩
    · rw [getD_take (by omega)]; exact g.val i (by omega)
    · rw [getD_take (by omega), getD_take (by omega)]; exact g.mono i (by omega)
    · exfalso
      rw [hl, getD_take (by omega)] at hx
      have := g.small hf (show s + p' - 1 < zs.length by omega)
      unfold infV at hx; omega
    · rw [hl, getD_take (by omega), getD_take (by omega), show s + p' - p' = s by omega]
      have h1 := hn.per s (Nat.le_refl _)
      have h2 := g.step (s + p' - 1)
      rw [show s + p' - 1 + 1 = s + p' by omega] at h2
      rw [atC_lt (show s + p' - 1 < zs.length by omega)] at h2
      rw [atC_lt (show s < zs.length by omega)] at h1
      omega
  · have hl : (zs.take (i + 1)).length = i + 1 := by rw [List.length_take]; omega
    have hg := g.few
    refine ⟨by omega, by omega, by omega, by omega, by omega, by omega, fun j hj => ?_, fun j hj => ?_, fun _ => ⟨rfl, rfl⟩, fun hx => ?_⟩
    · rw [getD_take (by omega)]; exact g.val j (by omega)
    · rw [getD_take (by omega), getD_take (by omega)]; exact g.mono j (by omega)
    · exfalso; apply hx; rw [hl, getD_take (by omega)]; exact he

theorem NormC.fin_iff {zs zs' : List Int} {p p' : Nat} {inc inc' : Int} (g : Good zs p inc) (h : NormC zs p inc zs' p' inc') : zs'.getD (zs'.length - 1) 0 = infV ↔ zs.getD (zs.length - 1) 0 = infV := by
  rcases h with ⟨hf, s, hn, rfl, hle, hpp⟩ | ⟨i, hi, he, hj, rfl, rfl, rfl⟩
  · have hl : (zs.take (s + p')).length = s + p' := by rw [List.length_take]; omega
    have hpos := hn.pos
    rw [hl, getD_take (by omega)]
    have := g.small hf (show s + p' - 1 < zs.length by omega)
    constructor
    · intro hx; unfold infV at hx; omega
    · intro hx; exact absurd hx hf
  · have hl : (zs.take (i + 1)).length = i + 1 := by rw [List.length_take]; omega
    rw [hl, getD_take (by omega)]
    exact ⟨fun _ => g.inf_iff.1 ⟨i, hi, he⟩, fun _ => he⟩

theorem list_ext_getD {a b : List Int} (hl : a.length = b.length) (h : ∀ i, i < a.length → a.getD i 0 = b.getD i 0) : a = b := by
  apply List.ext_getElem hl
  intro i h1 h2
  have := h i h1
  simpa [List.getD, List.getElem?_eq_getElem h1, List.getElem?_eq_getElem h2] using this

/-- Finiteness is seen in the values. -/
theorem Good.inf_at {zs : List Int} {p : Nat} {inc : Int} (g : Good zs p inc) {t : Nat} (ht : (t : Int) ≤ 1048576) : atC zs p inc t = infV → zs.getD (zs.length - 1) 0 = infV := by
  intro h
  refine Classical.byContradiction fun hf => ?_
  have := g.bd hf t
  rw [h] at this
  unfold infV at this
  omega

/-- Two valid curves with the same values have the same normal form. -/
theorem NormC.canon {zs zs' ys ys' : List Int} {p p' q q' : Nat} {inc inc' jnc jnc' : Int} (g : Good zs p inc) (h : NormC zs p inc zs' p' inc') (k : Good ys q jnc) (l : NormC ys q jnc ys' q' jnc')
    (he : ∀ t, atC zs p inc t = atC ys q jnc t) : zs' = ys' ∧ p' = q' ∧ inc' = jnc' := by
  have gv := h.values g
  have lv := l.values k
  have gl := (h.good g)
  have ll := (l.good k)
  have hlen1 := g.few; have hlen2 := k.few
  have hp1 := g.p1; have hp3 := g.p3; have hq1 := k.p1; have hq3 := k.p3
  by_cases hi : zs.getD (zs.length - 1) 0 = infV
  · have hi2 : ys.getD (ys.length - 1) 0 = infV := k.inf_at (t := zs.length - 1) (by omega) (by rw [← he, atC_inf hi (Nat.le_refl _) (by omega)])
    rcases h with ⟨hf, _⟩ | ⟨i, hi', he', hj, rfl, rfl, rfl⟩
    · exact absurd hi hf
    rcases l with ⟨hf, _⟩ | ⟨m, hm, hem, hjm, rfl, rfl, rfl⟩
    · exact absurd hi2 hf
    have hil : ∀ {zs ys : List Int} {p q : Nat} {inc jnc : Int} {i m : Nat}, Good ys q jnc → (∀ t, atC zs p inc t = atC ys q jnc t) → i < zs.length → zs.getD i 0 = infV → m < ys.length → ys.getD m 0 = infV → (∀ j, j < m → ¬ ys.getD j 0 = infV) → ¬ i < m := by
      intro zs ys p q inc jnc i m _ he hi hz hm hy hj hlt
      have h1 := he i
      rw [atC_lt hi, atC_lt (by omega)] at h1
      exact hj i hlt (by rw [← h1]; exact hz)
    have a1 := hil k he hi' he' hm hem hjm
    have a2 := hil g (fun t => (he t).symm) hm hem hi' he' hj
    obtain rfl : i = m := by omega
    refine ⟨list_ext_getD (by rw [List.length_take, List.length_take]; omega) fun j hj' => ?_, rfl, rfl⟩
    rw [List.length_take] at hj'
    rw [getD_take (by omega), getD_take (by omega)]
    have := he j
    rwa [atC_lt (by omega), atC_lt (by omega)] at this
  · have hi2 : ¬ ys.getD (ys.length - 1) 0 = infV := fun hx => hi (g.inf_at (t := ys.length - 1) (by omega) (by rw [he, atC_inf hx (Nat.le_refl _) (by omega)]))
    rcases h with ⟨hf, s, hn, rfl, hle, hpp⟩ | ⟨i, hi', he', hj, rfl, rfl, rfl⟩
    · rcases l with ⟨hf2, s2, hn2, rfl, hle2, hpp2⟩ | ⟨m, hm, hem, hjm, rfl, rfl, rfl⟩
      · have hfe : atC zs p inc = atC ys q jnc := funext he
        rw [← hfe] at hn2
        obtain ⟨rfl, rfl, rfl⟩ := hn.unique hn2
        refine ⟨list_ext_getD (by rw [List.length_take, List.length_take]; omega) fun j hj' => ?_, rfl, rfl⟩
        rw [List.length_take] at hj'
        rw [getD_take (by omega), getD_take (by omega)]
        have := he j
        rwa [atC_lt (by omega), atC_lt (by omega)] at this
      · exact absurd (k.inf_iff.1 ⟨m, hm, hem⟩) hi2
    · exact absurd (g.inf_iff.1 ⟨i, hi', he'⟩) hi

end Go.Proofs.YtkienpbmoilheaaGreat

namespace Go.Proofs.YtkienpbmoilheaaGreat

/-- The list of a function's first values. -/
def firsts (f : Nat → Int) (m : Nat) : List Int := (List.range m).map f
theorem firsts_length (f : Nat → Int) (m : Nat) : (firsts f m).length = m := by simp [firsts]
theorem firsts_getD (f : Nat → Int) (m i : Nat) (h : i < m) : (firsts f m).getD i 0 = f i := by simp [firsts, List.getD, h]
theorem firsts_succ (f : Nat → Int) (m : Nat) : firsts f (m + 1) = firsts f m ++ [f m] := by simp [firsts, List.range_succ]
theorem firsts_atC (zs : List Int) (p : Nat) (inc : Int) : firsts (atC zs p inc) zs.length = zs :=
  list_ext_getD (firsts_length _ _) fun i hi => by rw [firsts_length] at hi; rw [firsts_getD _ _ _ hi, atC_lt hi]

theorem Good.grow {zs : List Int} {p : Nat} {inc : Int} (g : Good zs p inc) (hf : ¬ zs.getD (zs.length - 1) 0 = infV) {t : Nat} (ht : zs.length - p ≤ t) (k : Nat) : atC zs p inc (t + k) ≤ atC zs p inc t + (k : Int) * inc := by
  induction k with
  | zero => simp
  | succ k ih =>
    have h1 := g.per hf (t + k) (by omega)
    have h2 := g.up (p - 1) (t + k + 1)
    have hp := g.p1
    rw [show t + k + 1 + (p - 1) = t + k + p by omega] at h2
    rw [show t + (k + 1) = t + k + 1 by omega, Int.natCast_succ, Int.add_mul]
    omega

theorem long_good {zs : List Int} {p : Nat} {inc : Int} (g : Good zs p inc) (hf : ¬ zs.getD (zs.length - 1) 0 = infV) {more times m : Nat} (hm : m = zs.length + more + (times - 1) * p) (ht : 1 ≤ times) (h1 : m ≤ 400) (h2 : p * times ≤ 120) (h3 : inc * (times : Int) ≤ 1073741824)
    (h4 : atC zs p inc (m - 1) ≤ 1073741824) :
    Good (firsts (atC zs p inc) m) (p * times) (inc * (times : Int)) ∧ (¬ (firsts (atC zs p inc) m).getD ((firsts (atC zs p inc) m).length - 1) 0 = infV) ∧ ∀ t, atC (firsts (atC zs p inc) m) (p * times) (inc * (times : Int)) t = atC zs p inc t := by
  have hp := g.p1
  have hp3 := g.p3
  have hi0 := g.i0
  obtain ⟨k, rfl⟩ : ∃ k, times = k + 1 := ⟨times - 1, by omega⟩
  rw [Nat.add_sub_cancel] at hm
  have hpt : p * (k + 1) = k * p + p := by rw [Nat.mul_succ, Nat.mul_comm]
  have hpm : p * (k + 1) ≤ m := by omega
  have hpp : 1 ≤ p * (k + 1) := by omega
  have hle : ∀ i, i < m → 0 ≤ atC zs p inc i ∧ atC zs p inc i ≤ 1073741824 := fun i hi => by
    have h5 := g.up (m - 1 - i) i
    rw [show i + (m - 1 - i) = m - 1 by omega] at h5
    have := (g.bd hf i).1
    omega
  have hlen := firsts_length (atC zs p inc) m
  have hlast : ¬ (firsts (atC zs p inc) m).getD ((firsts (atC zs p inc) m).length - 1) 0 = infV := by
    rw [hlen, firsts_getD _ _ _ (by omega)]
    have := hle (m - 1) (by omega)
    unfold infV; omega
  have hper : Per (atC zs p inc) (m - p * (k + 1)) (p * (k + 1)) (inc * ((k + 1 : Nat) : Int)) := by
    have h6 := (g.per hf).mul (k + 1)
    rw [Nat.mul_comm (k + 1) p, Int.mul_comm] at h6
    exact h6.mono (by omega)
  have hg : Good (firsts (atC zs p inc) m) (p * (k + 1)) (inc * ((k + 1 : Nat) : Int)) := by
    refine ⟨by omega, hpp, h2, by omega, Int.mul_nonneg hi0 (by omega), h3, fun i hi => ?_, fun i hi => ?_, fun hx => absurd hx hlast, fun _ => ?_⟩
    · rw [hlen] at hi; rw [firsts_getD _ _ _ hi]; exact .inl (hle i hi)
    · rw [hlen] at hi; rw [firsts_getD _ _ _ (by omega), firsts_getD _ _ _ hi]; exact g.step i
    · rw [hlen, firsts_getD _ _ _ (by omega), firsts_getD _ _ _ (by omega)]
      have h7 := hper (m - p * (k + 1)) (Nat.le_refl _)
      have h8 := g.up 1 (m - 1)
      rw [show m - 1 + 1 = m by omega] at h8
      rw [show m - p * (k + 1) + p * (k + 1) = m by omega] at h7
      omega
  refine ⟨hg, hlast, ?_⟩
  have hq := hg.per hlast
  rw [hlen] at hq
  refine hq.ext hper hpp fun t ht => ?_
  rw [atC_lt (by omega), firsts_getD _ _ _ (by omega)]

/-- What the values that are drawn keep to while a curve is made. -/
def SeqOk0 (zs : List Int) (v : Int) : Prop :=
  (∀ i, i < zs.length → 0 ≤ zs.getD i 0 ∧ zs.getD i 0 ≤ v) ∧ (∀ i, i + 1 < zs.length → zs.getD i 0 ≤ zs.getD (i + 1) 0) ∧ 0 ≤ v ∧ v ≤ 3 + 9 * (zs.length : Int)

/-- They grow by at most 9 a tick. -/
def SeqStep (zs : List Int) (v : Int) : Prop :=
  (∀ i, i + 1 < zs.length → zs.getD (i + 1) 0 ≤ zs.getD i 0 + 9) ∧ (∀ i, i < zs.length → zs.getD i 0 ≤ 3 + 9 * (i : Int)) ∧ (∀ i, i + 1 = zs.length → v ≤ zs.getD i 0 + 9)
def SeqOk (zs : List Int) (v : Int) : Prop := SeqOk0 zs v ∧ SeqStep zs v

theorem SeqOk.nil {v : Int} (h0 : 0 ≤ v) (h3 : v ≤ 3) : SeqOk [] v := ⟨⟨fun i hi => absurd hi (Nat.not_lt_zero _), fun i hi => absurd hi (Nat.not_lt_zero _), h0, by simp; exact h3⟩, fun i hi => absurd hi (Nat.not_lt_zero _), fun i hi => absurd hi (Nat.not_lt_zero _), fun i hi => by simp at hi⟩

theorem getD_append_lt {zs : List Int} {v : Int} {i : Nat} (h : i < zs.length) : (zs ++ [v]).getD i 0 = zs.getD i 0 := by
  simp [List.getD, List.getElem?_append_left h]
theorem getD_append_eq {zs : List Int} {v : Int} : (zs ++ [v]).getD zs.length 0 = v := by simp [List.getD]

theorem SeqOk.snoc {zs : List Int} {v d : Int} (h : SeqOk zs v) (h0 : 0 ≤ d) (h9 : d ≤ 9) : SeqOk (zs ++ [v]) (v + d) := by
  obtain ⟨⟨h1, h2, h3, h4⟩, s1, s2, s3⟩ := h
  have hl : (zs ++ [v]).length = zs.length + 1 := by simp
  refine ⟨⟨fun i hi => ?_, fun i hi => ?_, by omega, by rw [hl]; omega⟩, fun i hi => ?_, fun i hi => ?_, fun i hi => ?_⟩
  · rw [hl] at hi
    by_cases he : i = zs.length
    · subst he; rw [getD_append_eq]; omega
    · rw [getD_append_lt (by omega)]; have := h1 i (by omega); omega
  · rw [hl] at hi
    by_cases he : i + 1 = zs.length
    · rw [he, getD_append_eq, getD_append_lt (by omega)]; exact (h1 i (by omega)).2
    · rw [getD_append_lt (by omega), getD_append_lt (by omega)]; exact h2 i (by omega)
  · rw [hl] at hi
    by_cases he : i + 1 = zs.length
    · rw [he, getD_append_eq, getD_append_lt (by omega)]; exact s3 i he
    · rw [getD_append_lt (by omega), getD_append_lt (by omega)]; exact s1 i (by omega)
  · rw [hl] at hi
    by_cases he : i = zs.length
    · subst he; rw [getD_append_eq]; exact h4
    · rw [getD_append_lt (by omega)]; exact s2 i (by omega)
  · rw [hl] at hi
    obtain rfl : i = zs.length := by omega
    rw [getD_append_eq]; omega

/-- A curve that was drawn: valid and small. -/
structure OkCur (most : Nat) (zs : List Int) (p : Nat) (inc : Int) : Prop where
  good : Good zs p inc
  few : zs.length ≤ most + 7
  p8 : p ≤ 8
  slow : ¬ zs.getD (zs.length - 1) 0 = infV → ∀ t, atC zs p inc t ≤ 3 + 9 * (t : Int)
  twelve : ¬ zs.getD (zs.length - 1) 0 = infV → ∃ c, Per (atC zs p inc) (most - 1) 12 c
  inc : inc ≤ 1000
  val : ∀ i, i < zs.length → zs.getD i 0 ≤ 10000 ∨ zs.getD i 0 = infV
  div : 24 % p = 0

theorem per12 {f : Nat → Int} {s p : Nat} {c : Int} (h : Per f s p c) (h1 : 1 ≤ p) (h4 : p ≤ 4) : ∃ c, Per f s 12 c := by
  have hp : p = 1 ∨ p = 2 ∨ p = 3 ∨ p = 4 := by omega
  rcases hp with rfl | rfl | rfl | rfl
  · exact ⟨_, h.mul 12⟩
  · exact ⟨_, h.mul 6⟩
  · exact ⟨_, h.mul 4⟩
  · exact ⟨_, h.mul 3⟩
theorem div24 {p : Nat} (h1 : 1 ≤ p) (h4 : p ≤ 4) {k : Nat} (k1 : 1 ≤ k) (k2 : k ≤ 2) : 24 % (p * k) = 0 := by
  have hp : p = 1 ∨ p = 2 ∨ p = 3 ∨ p = 4 := by omega
  have hk : k = 1 ∨ k = 2 := by omega
  rcases hp with rfl | rfl | rfl | rfl <;> rcases hk with rfl | rfl <;> rfl

theorem step_le {zs : List Int} (h : ∀ i, i + 1 < zs.length → zs.getD (i + 1) 0 ≤ zs.getD i 0 + 9) : ∀ k i, i + k < zs.length → zs.getD (i + k) 0 ≤ zs.getD i 0 + 9 * (k : Int) := by
  intro k
  induction k with
  | zero => intro i _; simp
  | succ k ih =>
    intro i hi
    have h1 := ih i (by omega)
    have h2 := h (i + k) (by omega)
    rw [show i + (k + 1) = i + k + 1 by omega]
    omega
/-- A curve that grows by at most 9 a tick while it is listed, and by less than 9 a tick in its period. -/
theorem slow_of {zs : List Int} {p : Nat} {inc : Int} (g : Good zs p inc) (hf : ¬ zs.getD (zs.length - 1) 0 = infV) (h : ∀ i, i < zs.length → zs.getD i 0 ≤ 3 + 9 * (i : Int)) (hi : inc ≤ 9 * (p : Int)) : ∀ t, atC zs p inc t ≤ 3 + 9 * (t : Int) := by
  intro t
  induction t using Nat.strongRecOn with
  | ind t ih =>
    have hp := g.p3; have hp1 := g.p1
    by_cases hlt : t < zs.length
    · rw [atC_lt hlt]; exact h t hlt
    · have e := g.per hf (t - p) (by omega)
      have := ih (t - p) (by omega)
      rw [show t - p + p = t by omega] at e
      omega

theorem okCur_plain {most : Nat} (hm : most ≤ 9) {zs : List Int} {v : Int} (h : SeqOk zs v) {n : Nat} (hn : zs.length = n) (h1 : 1 ≤ n) (h2 : n ≤ most) {p : Nat} (hp1 : 1 ≤ p) (hp4 : p ≤ 4) (hpn : p ≤ n) {d : Int} (hd0 : 0 ≤ d) (hd8 : d ≤ 8) :
    OkCur most zs p (zs.getD (n - 1) 0 - zs.getD (n - p) 0 + d) ∧ (¬ zs.getD (zs.length - 1) 0 = infV) ∧ 0 ≤ zs.getD (n - 1) 0 - zs.getD (n - p) 0 + d ∧ zs.getD (n - 1) 0 - zs.getD (n - p) 0 + d ≤ 100 ∧ (∀ i, i < n → 0 ≤ zs.getD i 0 ∧ zs.getD i 0 ≤ 84) := by
  subst hn
  obtain ⟨⟨g1, g2, g3, g4⟩, s1, s2, s3⟩ := h
  have hb : ∀ i, i < zs.length → 0 ≤ zs.getD i 0 ∧ zs.getD i 0 ≤ 84 := fun i hi => by
    have := g1 i hi
    omega
  have a1 := hb (zs.length - 1) (by omega)
  have a2 := hb (zs.length - p) (by omega)
  have a3 := mono_le g2 (p - 1) (zs.length - p) (by omega)
  rw [show zs.length - p + (p - 1) = zs.length - 1 by omega] at a3
  have hlast : ¬ zs.getD (zs.length - 1) 0 = infV := by unfold infV; omega
  have hgood : Good zs p (zs.getD (zs.length - 1) 0 - zs.getD (zs.length - p) 0 + d) := ⟨by omega, hp1, by omega, by omega, by omega, by omega, fun i hi => by have := hb i hi; exact .inl ⟨this.1, by omega⟩, g2, fun hx => absurd hx hlast, fun _ => by omega⟩
  have hst := step_le s1 (p - 1) (zs.length - p) (by omega)
  rw [show zs.length - p + (p - 1) = zs.length - 1 by omega] at hst
  refine ⟨⟨hgood, by omega, by omega, fun hf => slow_of hgood hf s2 (by omega), fun hf => per12 ((hgood.per hf).mono (by omega)) hp1 hp4, by omega, fun i hi => ?_, by have := div24 hp1 hp4 (k := 1) (by omega) (by omega); rwa [Nat.mul_one] at this⟩, hlast, by omega, by omega, hb⟩
  · have := hb i hi; exact .inl (by omega)

theorem okCur_inf {most : Nat} (hm : most ≤ 9) {zs : List Int} {v : Int} (h : SeqOk zs v) (h2 : zs.length ≤ most) : OkCur most (zs ++ [infV]) 1 0 := by
  obtain ⟨⟨g1, g2, g3, g4⟩, s1, s2, s3⟩ := h
  have hl : (zs ++ [infV]).length = zs.length + 1 := by simp
  have hb : ∀ i, i < zs.length → 0 ≤ zs.getD i 0 ∧ zs.getD i 0 ≤ 84 := fun i hi => by
    have := g1 i hi
    omega
  refine ⟨⟨by omega, by omega, by omega, by omega, by omega, by omega, fun i hi => ?_, fun i hi => ?_, fun _ => ⟨rfl, rfl⟩, fun hx => ?_⟩, by omega, by omega, fun hf => absurd (by rw [hl, Nat.add_sub_cancel, getD_append_eq]) hf, fun hf => absurd (by rw [hl, Nat.add_sub_cancel, getD_append_eq]) hf, by omega, fun i hi => ?_, by decide⟩
  · rw [hl] at hi
    by_cases he : i = zs.length
    · subst he; rw [getD_append_eq]; exact .inr rfl
    · rw [getD_append_lt (by omega)]; have := hb i (by omega); exact .inl ⟨this.1, by omega⟩
  · rw [hl] at hi
    by_cases he : i + 1 = zs.length
    · rw [he, getD_append_eq, getD_append_lt (by omega)]; have := hb i (by omega); unfold infV; omega
    · rw [getD_append_lt (by omega), getD_append_lt (by omega)]; exact g2 i (by omega)
  · exact absurd (by rw [hl, Nat.add_sub_cancel, getD_append_eq]) hx
  · rw [hl] at hi
    by_cases he : i = zs.length
    · subst he; rw [getD_append_eq]; exact .inr rfl
    · rw [getD_append_lt (by omega)]; have := hb i (by omega); exact .inl (by omega)

theorem okCur_long {most : Nat} (hm : most ≤ 9) {zs : List Int} {p : Nat} {inc : Int} (o : OkCur most zs p inc) (hf : ¬ zs.getD (zs.length - 1) 0 = infV) (h2 : zs.length ≤ most) (hp : p ≤ 4) (hinc : inc ≤ 100) (hb : ∀ i, i < zs.length → 0 ≤ zs.getD i 0 ∧ zs.getD i 0 ≤ 84)
    {more times m : Nat} (hmore : more ≤ 3) (ht : 1 ≤ times) (ht2 : times ≤ 2) (hme : m = zs.length + more + (times - 1) * p) :
    OkCur most (firsts (atC zs p inc) m) (p * times) (inc * (times : Int)) := by
  have g := o.good
  have hp1 := g.p1
  have hp3 := g.p3
  have hi0 := g.i0
  have h12 : (times - 1) * p ≤ 4 := by
    have : times = 1 ∨ times = 2 := by omega
    rcases this with rfl | rfl <;> omega
  have hpt : p * times ≤ 8 := by
    have : times = 1 ∨ times = 2 := by omega
    rcases this with rfl | rfl <;> omega
  have hit : inc * (times : Int) ≤ 200 := by
    have : times = 1 ∨ times = 2 := by omega
    rcases this with rfl | rfl <;> omega
  have hmax : ∀ i, i < m → atC zs p inc i ≤ 1000 := fun i hi => by
    by_cases hlt : i < zs.length
    · rw [atC_lt hlt]; have := hb i hlt; omega
    · have h5 := g.grow hf (t := zs.length - 1) (by omega) (i - (zs.length - 1))
      rw [show zs.length - 1 + (i - (zs.length - 1)) = i by omega, atC_lt (show zs.length - 1 < zs.length by omega)] at h5
      have h6 := hb (zs.length - 1) (by omega)
      have h7 : ((i - (zs.length - 1) : Nat) : Int) * inc ≤ 7 * 100 := Int.mul_le_mul (by omega) hinc hi0 (by omega)
      omega
  obtain ⟨g1, g2, g3⟩ := long_good g hf hme ht (by omega) (by omega) (by omega) (by have := hmax (m - 1) (by omega); omega)
  refine ⟨g1, by rw [firsts_length]; omega, hpt, fun _ t => by rw [g3 t]; exact o.slow hf t, fun _ => by
    obtain ⟨c, h⟩ := o.twelve hf
    exact ⟨c, fun t ht => by rw [g3, g3]; exact h t ht⟩, by omega, fun i hi => ?_, div24 hp1 hp ht ht2⟩
  rw [firsts_length] at hi
  rw [firsts_getD _ _ _ hi]
  have := hmax i hi
  exact .inl (by omega)

end Go.Proofs.YtkienpbmoilheaaGreat

namespace Go.Proofs.YtkienpbmoilheaaGreat

/-- A tick behind the start, by its residue. -/
theorem tick_split {S L u : Nat} (hL : 1 ≤ L) (hu : S ≤ u) : ∃ r j, r < L ∧ u = S + r + j * L := by
  refine ⟨(u - S) % L, (u - S) / L, Nat.mod_lt _ hL, ?_⟩
  have := Nat.mod_add_div (u - S) L
  rw [Nat.mul_comm] at this
  omega

theorem Per.to {d : Nat → Int} {S L : Nat} {c : Int} (h : Per d S L c) (r j : Nat) : d (S + r + j * L) = d (S + r) + (j : Int) * c := h.mul j (S + r) (by omega)

/-! ## Two curves -/

/-- A curve that is not finite. -/
def InfC (zs : List Int) : Prop := zs.getD (zs.length - 1) 0 = infV
theorem infC_iff (zs : List Int) : InfC zs ↔ zs.getD (zs.length - 1) 0 = infV := Iff.rfl

section
variable {zs ys : List Int} {p q : Nat} {inc jnc : Int}

/-- A value of an infinite curve is infinite or small. -/
theorem Good.inf_small (g : Good zs p inc) (hi : InfC zs) (t : Nat) : atC zs p inc t = infV ∨ (0 ≤ atC zs p inc t ∧ atC zs p inc t ≤ 1073741824) := by
  have h3 := g.p3; have h1 := g.p1
  by_cases ht : t < zs.length
  · rw [atC_lt ht]
    rcases g.val t ht with h | h
    · exact .inr h
    · exact .inl h
  · exact .inl (atC_inf hi (by omega) (by omega))

/-- At a tick up to MaxTime the values themselves tell. -/
theorem Good.seen (g : Good zs p inc) {t : Nat} (ht : t ≤ 1048576) : (InfC zs ∧ atC zs p inc t = infV) ∨ ((¬ (InfC zs ∧ atC zs p inc t = infV)) ∧ 0 ≤ atC zs p inc t ∧ atC zs p inc t ≤ 1073741824 * ((t : Int) + 1)) := by
  by_cases hi : InfC zs
  · rcases g.inf_small hi t with h | h
    · exact .inl ⟨hi, h⟩
    · refine .inr ⟨fun hx => ?_, h.1, by omega⟩
      have := hx.2; unfold infV at this; omega
  · exact .inr ⟨fun hx => hi hx.1, g.bd hi t⟩

theorem at_bd (g : Good zs p inc) {t : Nat} (ht : t ≤ 1048576) : 0 ≤ atC zs p inc t ∧ atC zs p inc t ≤ 4611686018427387904 := by
  rcases g.seen ht with h1 | ⟨h1, h2, h3⟩
  · rw [h1.2]; unfold infV; omega
  · omega

/-- A multiple of both periods. -/
structure Lcm (p q L : Nat) : Prop where
  one : 1 ≤ L
  le : L ≤ p * q
  dp : L / p * p = L
  dq : L / q * q = L

theorem lcm_of (hp : 1 ≤ p) (hq : 1 ≤ q) {L : Nat} (h : p / Nat.gcd p q * q = L) : Lcm p q L := by
  have hg := Nat.gcd_pos_of_pos_left q (show 0 < p by omega)
  obtain ⟨x, hx⟩ := Nat.gcd_dvd_left p q
  obtain ⟨y, hy⟩ := Nat.gcd_dvd_right p q
  have e1 : p / Nat.gcd p q = x := by
    have : Nat.gcd p q * x / Nat.gcd p q = x := Nat.mul_div_cancel_left x hg
    rwa [← hx] at this
  rw [e1] at h
  have hLp : L = y * p := by
    rw [← h]
    have k1 : x * (Nat.gcd p q * y) = y * (Nat.gcd p q * x) := by rw [Nat.mul_left_comm, Nat.mul_left_comm y, Nat.mul_comm x y]
    rw [← hy, ← hx] at k1; exact k1
  have hx1 : 1 ≤ x := by
    rcases Nat.eq_zero_or_pos x with h0 | h0
    · rw [h0] at hx; omega
    · exact h0
  have hxp : x ≤ p := by rw [← e1]; exact Nat.div_le_self _ _
  refine ⟨?_, ?_, ?_, ?_⟩
  · rw [← h]; exact Nat.mul_pos hx1 hq
  · rw [← h]; exact Nat.mul_le_mul_right q hxp
  · rw [hLp, Nat.mul_div_cancel _ (by omega)]
  · rw [← h, Nat.mul_div_cancel _ (by omega)]

/-- All three answers exist, whatever the difference is. -/
theorem least_ex {P : Nat → Prop} (h : ∃ n, P n) : ∃ n, P n ∧ ∀ m, m < n → ¬ P m := by
  obtain ⟨n, hn⟩ := h
  induction n using Nat.strongRecOn with
  | ind n ih =>
    by_cases hx : ∃ m, m < n ∧ P m
    · obtain ⟨m, hm, hp⟩ := hx; exact ih m hm hp
    · exact ⟨n, hn, fun m hm hp => hx ⟨m, hm, hp⟩⟩

end
end Go.Proofs.YtkienpbmoilheaaGreat

namespace Go.Proofs.YtkienpbmoilheaaGreat

/-! ## The least period and start of a function -/

theorem normOf_ex {f : Nat → Int} {s P : Nat} {c : Int} (h : Per f s P c) (hP : 1 ≤ P) : ∃ s' p c', NormOf f s' p c' := by
  obtain ⟨p, ⟨h1, s1, c1, hp⟩, hl⟩ := least_ex (P := fun q => 1 ≤ q ∧ ∃ s c, Per f s q c) ⟨P, hP, s, c, h⟩
  obtain ⟨s2, h2, hs⟩ := least_ex (P := fun s => Per f s p c1) ⟨s1, hp⟩
  refine ⟨s2, p, c1, h2, h1, fun q hq hlt s' c' hk => hl q hlt ⟨hq, s', c', hk⟩, ?_⟩
  rcases Nat.eq_zero_or_pos s2 with h0 | hpos
  · exact .inl h0
  · refine .inr fun he => hs (s2 - 1) (by omega) fun t ht => ?_
    by_cases hlt : t = s2 - 1
    · rw [hlt]; exact he
    · exact h2 t (by omega)

theorem NormOf.start_le {f : Nat → Int} {s p s' P : Nat} {c I : Int} (h : NormOf f s p c) (k : Per f s' P I) (hP : 1 ≤ P) : s ≤ s' := by
  rcases h.start with h0 | hn
  · omega
  · exact Nat.le_of_not_lt fun hlt => hn ((k.any hP h.per) (s - 1) (by omega))

theorem NormOf.per_le {f : Nat → Int} {s p s' P : Nat} {c I : Int} (h : NormOf f s p c) (k : Per f s' P I) (hP : 1 ≤ P) : p ≤ P :=
  Nat.le_of_not_lt fun hlt => h.least P hP hlt _ _ k

theorem Good.perAny {zs : List Int} {p : Nat} {inc : Int} (g : Good zs p inc) : Per (atC zs p inc) (zs.length - p) p inc := by
  by_cases hi : zs.getD (zs.length - 1) 0 = infV
  · have h3 := g.p3
    obtain ⟨rfl, rfl⟩ := g.tailI hi
    intro t ht
    rw [atC_inf hi (by omega) (by omega), atC_inf hi (by omega) (by omega)]; omega
  · exact g.per hi

/-- A curve in normal form with the values F. -/
def Form (zs : List Int) (p : Nat) (inc : Int) (F : Nat → Int) : Prop :=
  Good zs p inc ∧ (∀ t, atC zs p inc t = F t) ∧ ∃ s, zs.length = s + p ∧ NormOf F s p inc

def CanBe (F : Nat → Int) : Prop := ∃ zs p inc, Good zs p inc ∧ ∀ t, atC zs p inc t = F t

theorem Form.unique {zs ys : List Int} {p q : Nat} {inc jnc : Int} {F : Nat → Int} (h : Form zs p inc F) (k : Form ys q jnc F) : zs = ys ∧ p = q ∧ inc = jnc := by
  obtain ⟨g, hv, s, hs, hn⟩ := h
  obtain ⟨g', kv, s', ks, kn⟩ := k
  obtain ⟨rfl, rfl, rfl⟩ := hn.unique kn
  refine ⟨list_ext_getD (by omega) fun i hi => ?_, rfl, rfl⟩
  rw [← atC_lt (p := p) (inc := inc) hi, ← atC_lt (zs := ys) (p := p) (inc := inc) (by omega), hv, kv]

theorem Good.form {ys : List Int} {q : Nat} {j : Int} (g : Good ys q j) {F : Nat → Int} (he : ∀ t, atC ys q j t = F t) {s p : Nat} {c : Int} (hn : NormOf F s p c) :
    s + p ≤ ys.length ∧ p ≤ q ∧ NormC ys q j (firsts F (s + p)) p c ∧ Form (firsts F (s + p)) p c F := by
  have hpe : Per F (ys.length - q) q j := fun t ht => by rw [← he, ← he]; exact g.perAny t ht
  have hs := hn.start_le hpe g.p1
  have hp := hn.per_le hpe g.p1
  have h3 := g.p3
  have h1 := g.p1
  have hp1 := hn.pos
  have htk : firsts F (s + p) = ys.take (s + p) := list_ext_getD (by rw [firsts_length, List.length_take]; omega) fun i hi => by
    rw [firsts_length] at hi
    rw [firsts_getD _ _ _ hi, getD_take hi, ← he, atC_lt (by omega)]
  have hN : NormC ys q j (firsts F (s + p)) p c := by
    rw [htk]
    by_cases hi : ys.getD (ys.length - 1) 0 = infV
    · obtain ⟨rfl, rfl⟩ := g.tailI hi
      obtain rfl : p = 1 := by omega
      have hc : c = 0 := (hn.per.mono hs).same hpe
      subst hc
      have hF : ∀ k, F (s + k) = F s := fun k => by
        induction k with
        | zero => rfl
        | succ k ih => have := hn.per (s + k) (by omega); rw [show s + (k + 1) = s + k + 1 by omega]; omega
      have hFs : F s = infV := by
        have := hF (ys.length - 1 - s)
        rw [show s + (ys.length - 1 - s) = ys.length - 1 by omega, ← he, atC_lt (by omega), hi] at this
        exact this.symm
      refine .inr ⟨s, by omega, by rw [← atC_lt (p := 1) (inc := 0) (show s < ys.length by omega), he]; exact hFs, fun k hk hx => ?_, rfl, rfl, rfl⟩
      rcases hn.start with h0 | hne
      · omega
      · have a1 := g.le (show k ≤ s - 1 by omega) (by omega)
        have a2 := g.val (s - 1) (by omega)
        have a3 := he (s - 1)
        rw [atC_lt (by omega)] at a3
        apply hne
        rw [show s - 1 + 1 = s by omega, hFs, ← a3]
        unfold infV at *; omega
    · exact .inl ⟨hi, s, by rw [show atC ys q j = F from funext he]; exact hn, rfl, by omega, hp⟩
  have hv := hN.values g
  exact ⟨by omega, hp, hN, hN.good g, fun t => (hv t).trans (he t), s, firsts_length _ _, hn⟩

/-- The list that the search makes is the curve, if it is valid. -/
theorem form_of {F : Nat → Int} {s p : Nat} {c : Int} (hn : NormOf F s p c) (g : Good (firsts F (s + p)) p c) : Form (firsts F (s + p)) p c F := by
  have hl := firsts_length F (s + p)
  have hp1 := hn.pos
  refine ⟨g, ?_, s, hl, hn⟩
  by_cases hi : (firsts F (s + p)).getD ((firsts F (s + p)).length - 1) 0 = infV
  · obtain ⟨rfl, rfl⟩ := g.tailI hi
    have hF : ∀ k, F (s + k) = F s := fun k => by
      induction k with
      | zero => rfl
      | succ k ih => have := hn.per (s + k) (by omega); rw [show s + (k + 1) = s + k + 1 by omega]; omega
    have hFs : F s = infV := by rw [hl, show s + 1 - 1 = s by omega, firsts_getD _ _ _ (by omega)] at hi; exact hi
    intro t
    by_cases ht : t < s + 1
    · rw [atC_lt (by omega), firsts_getD _ _ _ ht]
    · rw [atC_inf hi (by omega) (by omega), show t = s + (t - s) by omega, hF, hFs]
  · have hper := atC_per (inc := c) hn.pos (show p ≤ (firsts F (s + p)).length by omega) hi
    rw [hl, show s + p - p = s by omega] at hper
    exact hper.ext hn.per hn.pos fun t ht => by rw [atC_lt (by omega), firsts_getD _ _ _ ht]

theorem no_form {F : Nat → Int} {s p : Nat} {c : Int} (hn : NormOf F s p c) (h : ¬ Good (firsts F (s + p)) p c) : ¬ CanBe F := by
  rintro ⟨ys, q, j, g, he⟩
  exact h (g.form he hn).2.2.2.1

theorem no_form_long {F : Nat → Int} {s p : Nat} {c : Int} (hn : NormOf F s p c) (h : 400 < s + p) : ¬ CanBe F :=
  no_form hn fun g => by have := g.few; rw [firsts_length] at this; omega

theorem CanBe.form {F : Nat → Int} (h : CanBe F) : ∃ zs p inc, Form zs p inc F := by
  obtain ⟨ys, q, j, g, he⟩ := h
  have hpe : Per F (ys.length - q) q j := fun t ht => by rw [← he, ← he]; exact g.perAny t ht
  obtain ⟨s, p, c, hn⟩ := normOf_ex hpe g.p1
  exact ⟨_, _, _, (g.form he hn).2.2.2⟩

theorem CanBe.per {F : Nat → Int} (h : CanBe F) : ∃ s p c, s ≤ 399 ∧ 1 ≤ p ∧ Per F s p c := by
  obtain ⟨ys, q, j, g, he⟩ := h
  have h1 := g.few; have h2 := g.p1; have h3 := g.p3
  exact ⟨ys.length - q, q, j, by omega, h2, fun t ht => by rw [← he, ← he]; exact g.perAny t ht⟩

/-! ## Values that may be infinite -/

def enc : Option Int → Int
  | none => infV
  | some x => x

open Classical in
noncomputable def eC (zs : List Int) (p : Nat) (inc : Int) (t : Nat) : Option Int :=
  if InfC zs ∧ atC zs p inc t = infV then none else some (atC zs p inc t)

theorem enc_eC (zs : List Int) (p : Nat) (inc : Int) (t : Nat) : enc (eC zs p inc t) = atC zs p inc t := by
  unfold eC
  split
  · rename_i h; exact h.2.symm
  · rfl

theorem eC_fin {zs : List Int} (h : ¬ InfC zs) (p : Nat) (inc : Int) (t : Nat) : eC zs p inc t = some (atC zs p inc t) := by
  unfold eC; rw [if_neg (fun hx => h hx.1)]

theorem eC_none {zs : List Int} {p : Nat} {inc : Int} {t : Nat} : eC zs p inc t = none ↔ InfC zs ∧ atC zs p inc t = infV := by
  unfold eC
  split
  · rename_i h; exact ⟨fun _ => h, fun _ => rfl⟩
  · rename_i h; exact ⟨(fun hx => by cases hx), fun hx => absurd hx h⟩

/-- In an infinite curve each value is none or small. -/
theorem eC_inf {zs : List Int} {p : Nat} {inc : Int} (g : Good zs p inc) (hi : InfC zs) (t : Nat) : eC zs p inc t = none ∨ ∃ x, eC zs p inc t = some x ∧ atC zs p inc t = x ∧ 0 ≤ x ∧ x ≤ 1073741824 := by
  rcases g.inf_small hi t with h | h
  · exact .inl (eC_none.2 ⟨hi, h⟩)
  · refine .inr ⟨_, ?_, rfl, h.1, h.2⟩
    unfold eC; rw [if_neg]
    intro hx; have := hx.2; unfold infV at this; omega

theorem eC_late {zs : List Int} {p : Nat} {inc : Int} (g : Good zs p inc) (hi : InfC zs) {t : Nat} (ht : zs.length - 1 ≤ t) : eC zs p inc t = none := by
  have h1 := g.p1; have h3 := g.p3
  exact eC_none.2 ⟨hi, atC_inf hi ht (by omega)⟩

theorem eC_up {zs : List Int} {p : Nat} {inc : Int} (g : Good zs p inc) {t : Nat} (h : eC zs p inc t = none) : eC zs p inc (t + 1) = none := by
  obtain ⟨hi, ha⟩ := eC_none.1 h
  refine eC_none.2 ⟨hi, ?_⟩
  have h1 := g.step t
  rcases g.inf_small hi (t + 1) with h2 | h2
  · exact h2
  · rw [ha] at h1; unfold infV at h1; omega

theorem eC_bd {zs : List Int} {p : Nat} {inc : Int} (g : Good zs p inc) {t : Nat} {x : Int} (h : eC zs p inc t = some x) : 0 ≤ x ∧ x ≤ 1073741824 * ((t : Int) + 1) ∧ atC zs p inc t = x := by
  by_cases hi : InfC zs
  · rcases eC_inf g hi t with h2 | ⟨y, h2, h3, h4, h5⟩
    · rw [h2] at h; cases h
    · rw [h2] at h; cases h; omega
  · rw [eC_fin hi] at h; cases h
    have := g.bd hi t
    omega

/-- What the values of a curve that is to be made keep to: what is infinite stays so, and is told from what is finite. -/
def Tame (E : Nat → Option Int) : Prop :=
  (∀ t, E t = none → E (t + 1) = none) ∧ ((∃ u, 400 ≤ u ∧ ∃ y, E u = some y ∧ ¬ y = infV) ∨ (∀ t x, E t = some x → ¬ x = infV))

/-- A curve in normal form with these values. -/
def EForm (zs : List Int) (p : Nat) (inc : Int) (E : Nat → Option Int) : Prop :=
  Good zs p inc ∧ (∀ t, eC zs p inc t = E t) ∧ ∃ s, zs.length = s + p ∧ NormOf (atC zs p inc) s p inc

def ECan (E : Nat → Option Int) : Prop := ∃ zs p inc, Good zs p inc ∧ ∀ t, eC zs p inc t = E t

def encF (E : Nat → Option Int) (t : Nat) : Int := enc (E t)

theorem stays {E : Nat → Option Int} (h : ∀ t, E t = none → E (t + 1) = none) {t : Nat} (h0 : E t = none) (k : Nat) : E (t + k) = none := by
  induction k with
  | zero => exact h0
  | succ k ih => exact h (t + k) ih

theorem eform_of {E : Nat → Option Int} (hT : Tame E) {zs : List Int} {p : Nat} {inc : Int} (h : Form zs p inc (encF E)) : EForm zs p inc E := by
  obtain ⟨g, hv, s, hs, hn⟩ := h
  refine ⟨g, fun t => ?_, s, hs, by rw [show atC zs p inc = encF E from funext hv]; exact hn⟩
  have hf := g.few; have h1 := g.p1; have h3 := g.p3
  cases hE : E t with
  | none =>
    have ha : atC zs p inc t = infV := by rw [hv]; unfold encF; rw [hE]; rfl
    refine eC_none.2 ⟨Classical.byContradiction fun hi => ?_, ha⟩
    have hall : ∀ k, atC zs p inc (t + k) = infV := fun k => by rw [hv]; unfold encF; rw [stays hT.1 hE]; rfl
    have hper := g.per hi
    have e1 := hper (t + zs.length) (by omega)
    rw [hall, show t + zs.length + p = t + (zs.length + p) by omega, hall] at e1
    have hi0 : inc = 0 := by omega
    have e2 := (hper.mul t) (zs.length - p) (Nat.le_refl _)
    rw [hi0, Int.mul_zero, Int.add_zero] at e2
    have hle : t ≤ t * p := Nat.le_mul_of_pos_right _ (by omega)
    rw [hi0] at hall
    rw [show zs.length - p + t * p = t + (zs.length - p + t * p - t) by omega, hall, atC_lt (by omega)] at e2
    have := g.small hi (show zs.length - p < zs.length by omega)
    unfold infV at e2; omega
  | some x =>
    have ha : atC zs p inc t = x := by rw [hv]; unfold encF; rw [hE]; rfl
    unfold eC
    rw [if_neg, ha]
    rintro ⟨hi, hx⟩
    rcases hT.2 with ⟨u, hu, y, hy, hne⟩ | h
    · apply hne
      have e : atC zs p inc u = y := by rw [hv]; unfold encF; rw [hy]; rfl
      rw [← e]; exact atC_inf hi (by omega) (by omega)
    · exact h t x hE (by rw [← ha]; exact hx)

theorem ECan.can {E : Nat → Option Int} (h : ECan E) : CanBe (encF E) := by
  obtain ⟨zs, p, inc, g, he⟩ := h
  exact ⟨zs, p, inc, g, fun t => by rw [← enc_eC, he]; rfl⟩

theorem EForm.form {zs : List Int} {p : Nat} {inc : Int} {E : Nat → Option Int} (h : EForm zs p inc E) : Form zs p inc (encF E) := by
  obtain ⟨g, he, s, hs, hn⟩ := h
  have hv : ∀ t, atC zs p inc t = encF E t := fun t => by rw [← enc_eC, he]; rfl
  exact ⟨g, hv, s, hs, by rw [← show atC zs p inc = encF E from funext hv]; exact hn⟩

theorem EForm.unique {zs ys : List Int} {p q : Nat} {inc jnc : Int} {E : Nat → Option Int} (h : EForm zs p inc E) (k : EForm ys q jnc E) : zs = ys ∧ p = q ∧ inc = jnc :=
  h.form.unique k.form

theorem EForm.can {zs : List Int} {p : Nat} {inc : Int} {E : Nat → Option Int} (h : EForm zs p inc E) : ECan E := ⟨zs, p, inc, h.1, h.2.1⟩

/-- The normal form of a valid curve. -/
theorem NormC.eform {zs zs' : List Int} {p p' : Nat} {inc inc' : Int} (g : Good zs p inc) (h : NormC zs p inc zs' p' inc') : EForm zs' p' inc' (eC zs p inc) := by
  have hv := h.values g
  have g' := h.good g
  have hfin := h.fin_iff g
  have he : ∀ t, eC zs' p' inc' t = eC zs p inc t := fun t => by
    have e : InfC zs' ↔ InfC zs := hfin
    unfold eC
    rw [hv t]
    by_cases hi : InfC zs
    · have hi' := e.2 hi
      by_cases ha : atC zs p inc t = infV
      · rw [if_pos ⟨hi', ha⟩, if_pos ⟨hi, ha⟩]
      · rw [if_neg (fun hx => ha hx.2), if_neg (fun hx => ha hx.2)]
    · rw [if_neg (fun hx => hi (e.1 hx.1)), if_neg (fun hx => hi hx.1)]
  refine ⟨g', he, ?_⟩
  rw [show atC zs' p' inc' = atC zs p inc from funext hv]
  obtain ⟨s, p2, c2, hn⟩ := normOf_ex g.perAny g.p1
  obtain ⟨_, _, hN, hF⟩ := g.form (fun _ => rfl) hn
  obtain ⟨rfl, rfl, rfl⟩ := h.canon g g hN (fun _ => rfl)
  exact ⟨s, firsts_length _ _, hn⟩

/-! ## Curves from their values -/

theorem good_fin {F : Nat → Int} {s p : Nat} {c : Int} (hp : Per F s p c) (h1 : 1 ≤ p) (h2 : p ≤ 120) (h3 : s + p ≤ 400) (h0 : 0 ≤ F 0) (hm : ∀ t, t < s + p → F t ≤ F (t + 1)) (hb : F (s + p - 1) ≤ 1073741824) (hc : c ≤ 1073741824) :
    Good (firsts F (s + p)) p c ∧ (¬ InfC (firsts F (s + p))) ∧ ∀ t, atC (firsts F (s + p)) p c t = F t := by
  have hl := firsts_length F (s + p)
  have up : ∀ k i, i + k ≤ s + p → F i ≤ F (i + k) := fun k => by
    induction k with
    | zero => intro i _; exact Int.le_refl _
    | succ k ih => intro i hi; have a := ih i (by omega); have b := hm (i + k) (by omega); rw [show i + (k + 1) = i + k + 1 by omega]; omega
  have lo : ∀ i, i ≤ s + p → 0 ≤ F i := fun i hi => by have := up i 0 (by omega); rw [Nat.zero_add] at this; omega
  have hi' : ∀ i, i < s + p → F i ≤ 1073741824 := fun i hi => by have := up (s + p - 1 - i) i (by omega); rw [show i + (s + p - 1 - i) = s + p - 1 by omega] at this; omega
  have hlast : ¬ InfC (firsts F (s + p)) := by
    rw [infC_iff, hl, firsts_getD _ _ _ (by omega)]; unfold infV; omega
  have hc0 : F (s + p) = F s + c := hp s (Nat.le_refl _)
  have hup := up p s (by omega)
  have g : Good (firsts F (s + p)) p c := by
    refine ⟨by omega, h1, h2, by omega, by omega, hc, fun i hi => ?_, fun i hi => ?_, fun hx => absurd hx hlast, fun _ => ?_⟩
    · rw [hl] at hi; rw [firsts_getD _ _ _ hi]; exact .inl ⟨lo i (by omega), hi' i hi⟩
    · rw [hl] at hi; rw [firsts_getD _ _ _ (by omega), firsts_getD _ _ _ hi]; exact hm i (by omega)
    · rw [hl, firsts_getD _ _ _ (by omega), firsts_getD _ _ _ (by omega), show s + p - p = s by omega]
      have := hm (s + p - 1) (by omega)
      rw [show s + p - 1 + 1 = s + p by omega] at this
      omega
  refine ⟨g, hlast, ?_⟩
  have hper := g.per hlast
  rw [hl, show s + p - p = s by omega] at hper
  exact hper.ext hp h1 fun t ht => by rw [atC_lt (by omega), firsts_getD _ _ _ ht]

/-- There is a curve with these values, all finite. -/
theorem can_fin {E : Nat → Option Int} {F : Nat → Int} (hE : ∀ t, E t = some (F t)) {s p : Nat} {c : Int} (hp : Per F s p c) (h1 : 1 ≤ p) (h2 : p ≤ 120) (h3 : s + p ≤ 400) (h0 : 0 ≤ F 0) (hm : ∀ t, t < s + p → F t ≤ F (t + 1)) (hb : F (s + p - 1) ≤ 1073741824) (hc : c ≤ 1073741824) : ECan E := by
  obtain ⟨g, hf, hv⟩ := good_fin hp h1 h2 h3 h0 hm hb hc
  exact ⟨_, _, _, g, fun t => by rw [eC_fin hf, hv, hE]⟩

/-- There is a curve with these values, which are infinite from i on. -/
theorem can_inf {E : Nat → Option Int} {F : Nat → Int} {i : Nat} (hi : i ≤ 399) (hE : ∀ t, t < i → E t = some (F t)) (hN : ∀ t, i ≤ t → E t = none) (hb : ∀ t, t < i → 0 ≤ F t ∧ F t ≤ 1073741824) (hm : ∀ t, t + 1 < i → F t ≤ F (t + 1)) : ECan E := by
  have hl : (firsts F i ++ [infV]).length = i + 1 := by simp [firsts_length]
  have hlt : ∀ j, j < i → (firsts F i ++ [infV]).getD j 0 = F j := fun j hj => by
    rw [getD_append_lt (by rw [firsts_length]; exact hj), firsts_getD _ _ _ hj]
  have hat : (firsts F i ++ [infV]).getD i 0 = infV := by
    have := getD_append_eq (zs := firsts F i) (v := infV)
    rwa [firsts_length] at this
  have hlast : InfC (firsts F i ++ [infV]) := by rw [infC_iff, hl, Nat.add_sub_cancel, hat]
  have g : Good (firsts F i ++ [infV]) 1 0 := by
    refine ⟨by omega, by omega, by omega, by omega, by omega, by omega, fun j hj => ?_, fun j hj => ?_, fun _ => ⟨rfl, rfl⟩, fun hx => absurd hlast hx⟩
    · by_cases he : j = i
      · subst he; exact .inr hat
      · rw [hlt j (by omega)]; exact .inl (hb j (by omega))
    · by_cases he : j + 1 = i
      · rw [he, hat, hlt j (by omega)]; have := hb j (by omega); unfold infV; omega
      · rw [hlt j (by omega), hlt (j + 1) (by omega)]; exact hm j (by omega)
  refine ⟨_, _, _, g, fun t => ?_⟩
  by_cases ht : t < i
  · rw [hE t ht]
    unfold eC
    rw [if_neg, atC_lt (by omega), hlt t ht]
    rintro ⟨_, hx⟩
    rw [atC_lt (by omega), hlt t ht] at hx
    have := hb t ht
    unfold infV at hx; omega
  · rw [hN t (by omega)]
    exact eC_none.2 ⟨hlast, atC_inf hlast (by omega) (by omega)⟩

/-! ## The greater and the lesser of two functions -/

def maxF (a b : Nat → Int) (t : Nat) : Int := max (a t) (b t)
def minF (a b : Nat → Int) (t : Nat) : Int := min (a t) (b t)

theorem max_found {a b : Nat → Int} {S L : Nat} {ca cb : Int} (ha : Per a S L ca) (hb : Per b S L cb) (hL : 1 ≤ L) (h : ∀ t, S ≤ t → t < S + L → maxF a b (t + L) = maxF a b t + max ca cb) : Per (maxF a b) S L (max ca cb) := by
  intro t
  induction t using Nat.strongRecOn with
  | ind t ih =>
    intro ht
    by_cases hlt : t < S + L
    · exact h t ht hlt
    · obtain ⟨u, rfl⟩ : ∃ u, t = u + L := ⟨t - L, by omega⟩
      have h0 := ih u (by omega) (by omega)
      have a1 := ha u (by omega)
      have a2 := ha (u + L) (by omega)
      have b1 := hb u (by omega)
      have b2 := hb (u + L) (by omega)
      unfold maxF at *
      rw [a2, b2]
      rw [a1, b1] at h0 ⊢
      omega

theorem bound_ex (d : Nat → Int) (S : Nat) : ∀ L, ∃ K : Nat, ∀ r, r < L → d (S + r) ≤ K
  | 0 => ⟨0, fun r hr => absurd hr (Nat.not_lt_zero _)⟩
  | L + 1 => by
    obtain ⟨K, hK⟩ := bound_ex d S L
    refine ⟨K + (d (S + L)).toNat, fun r hr => ?_⟩
    by_cases he : r = L
    · subst he; omega
    · have := hK r (by omega); omega

/-- What falls from period to period is below 0 in the end. -/
theorem falls {d : Nat → Int} {S L : Nat} {c : Int} (h : Per d S L c) (hL : 1 ≤ L) (hc : c < 0) : ∃ S', S ≤ S' ∧ ∀ t, S' ≤ t → d t ≤ 0 := by
  obtain ⟨K, hK⟩ := bound_ex d S L
  refine ⟨S + (K + 1) * L, by omega, fun t ht => ?_⟩
  obtain ⟨r, j, hr, rfl⟩ := tick_split (S := S) hL (show S ≤ t by omega)
  have hj : K ≤ j := by
    refine Nat.le_of_not_lt fun hlt => ?_
    have h1 : j * L + L ≤ K * L := by
      have := Nat.mul_le_mul_right L (show j + 1 ≤ K by omega)
      rwa [Nat.succ_mul] at this
    rw [Nat.succ_mul] at ht
    omega
  rw [h.to r j]
  have h1 := hK r hr
  have h2 : (j : Int) * c ≤ (j : Int) * (-1) := Int.mul_le_mul_of_nonneg_left (by omega) (by omega)
  omega

theorem max_late {a b : Nat → Int} {S L : Nat} {ca cb : Int} (ha : Per a S L ca) (hb : Per b S L cb) (hL : 1 ≤ L) : ∃ S', Per (maxF a b) S' L (max ca cb) := by
  have hd : Per (fun t => a t - b t) S L (ca - cb) := fun t ht => by have := ha t ht; have := hb t ht; show a (t + L) - b (t + L) = a t - b t + (ca - cb); omega
  have hd' : Per (fun t => b t - a t) S L (cb - ca) := fun t ht => by have := ha t ht; have := hb t ht; show b (t + L) - a (t + L) = b t - a t + (cb - ca); omega
  rcases Int.lt_trichotomy ca cb with h | h | h
  · obtain ⟨S', hS, hf⟩ := falls hd hL (by omega)
    refine ⟨S', fun t ht => ?_⟩
    have e1 : a t - b t ≤ 0 := hf t ht
    have e2 : a (t + L) - b (t + L) ≤ 0 := hf (t + L) (by omega)
    have e3 := hb t (by omega)
    unfold maxF; omega
  · refine ⟨S, fun t ht => ?_⟩
    have e1 := ha t ht
    have e2 := hb t ht
    unfold maxF; omega
  · obtain ⟨S', hS, hf⟩ := falls hd' hL (by omega)
    refine ⟨S', fun t ht => ?_⟩
    have e1 : b t - a t ≤ 0 := hf t ht
    have e2 : b (t + L) - a (t + L) ≤ 0 := hf (t + L) (by omega)
    have e3 := ha t (by omega)
    unfold maxF; omega

theorem min_late {a b : Nat → Int} {S L : Nat} {ca cb : Int} (ha : Per a S L ca) (hb : Per b S L cb) (hL : 1 ≤ L) : ∃ S', Per (minF a b) S' L (min ca cb) := by
  have hd : Per (fun t => a t - b t) S L (ca - cb) := fun t ht => by have := ha t ht; have := hb t ht; show a (t + L) - b (t + L) = a t - b t + (ca - cb); omega
  have hd' : Per (fun t => b t - a t) S L (cb - ca) := fun t ht => by have := ha t ht; have := hb t ht; show b (t + L) - a (t + L) = b t - a t + (cb - ca); omega
  rcases Int.lt_trichotomy ca cb with h | h | h
  · obtain ⟨S', hS, hf⟩ := falls hd hL (by omega)
    refine ⟨S', fun t ht => ?_⟩
    have e1 : a t - b t ≤ 0 := hf t ht
    have e2 : a (t + L) - b (t + L) ≤ 0 := hf (t + L) (by omega)
    have e3 := ha t (by omega)
    unfold minF; omega
  · refine ⟨S, fun t ht => ?_⟩
    have e1 := ha t ht
    have e2 := hb t ht
    unfold minF; omega
  · obtain ⟨S', hS, hf⟩ := falls hd' hL (by omega)
    refine ⟨S', fun t ht => ?_⟩
    have e1 : b t - a t ≤ 0 := hf t ht
    have e2 : b (t + L) - a (t + L) ≤ 0 := hf (t + L) (by omega)
    have e3 := hb t (by omega)
    unfold minF; omega

/-- If a function grows by G in the end, and is a curve's, then it does so in each period behind tick 400. -/
theorem CanBe.late {F : Nat → Int} (h : CanBe F) {S L : Nat} {G : Int} (k : Per F S L G) : Per F 400 L G := by
  obtain ⟨s, p, c, hs, hp, hk⟩ := h.per
  exact (hk.any hp k).mono (by omega)

end Go.Proofs.YtkienpbmoilheaaGreat

namespace Go.Proofs.YtkienpbmoilheaaGreat

def oadd : Option Int → Option Int → Option Int
  | some x, some y => some (x + y)
  | _, _ => none
def omin : Option Int → Option Int → Option Int
  | none, y => y
  | some x, none => some x
  | some x, some y => some (min x y)
def omax : Option Int → Option Int → Option Int
  | some x, some y => some (max x y)
  | _, _ => none
def plI (a b : Int) : Int := if a = infV ∨ b = infV then infV else a + b

theorem plI_fin {a b : Int} (ha : ¬ a = infV) (hb : ¬ b = infV) : plI a b = a + b := by unfold plI; rw [if_neg (fun h => h.elim ha hb)]
theorem plI_l (b : Int) : plI infV b = infV := by unfold plI; rw [if_pos (.inl rfl)]
theorem plI_r (a : Int) : plI a infV = infV := by unfold plI; rw [if_pos (.inr rfl)]

theorem oadd_none_l (y : Option Int) : oadd none y = none := by cases y <;> rfl
theorem omax_none_l (y : Option Int) : omax none y = none := by cases y <;> rfl
theorem omax_none_r (x : Option Int) : omax x none = none := by cases x <;> rfl
/-- How much a curve grows in L ticks in the long run. -/
noncomputable def growI (zs : List Int) (p : Nat) (inc : Int) (L : Nat) : Int :=
  open Classical in if InfC zs then infV else ((L / p : Nat) : Int) * inc
theorem growI_inf {zs : List Int} (h : InfC zs) (p : Nat) (inc : Int) (L : Nat) : growI zs p inc L = infV := by unfold growI; rw [if_pos h]
theorem growI_fin {zs : List Int} (h : ¬ InfC zs) (p : Nat) (inc : Int) (L : Nat) : growI zs p inc L = ((L / p : Nat) : Int) * inc := by unfold growI; rw [if_neg h]

/-- A number that is infinite or small. -/
def Mid (x : Int) : Prop := x = infV ∨ (0 ≤ x ∧ x ≤ 1125899906842624)

def chk (F : Nat → Int) (L : Nat) (G : Int) : Prop := ∀ t, 400 ≤ t → t < 400 + L → F (t + L) = plI (F t) G
/-- The test of one period tells whether there is a curve. -/
def Settling (F : Nat → Int) (L : Nat) (G : Int) : Prop := (chk F L G → ∃ c, Per F 400 L c) ∧ (¬ chk F L G → ¬ CanBe F)
/-- The test of one period from the tick s on. -/
def chkS (F : Nat → Int) (s L : Nat) (G : Int) : Prop := ∀ t, s ≤ t → t < s + L → F (t + L) = plI (F t) G
def SettlingS (F : Nat → Int) (s L : Nat) (G : Int) : Prop := (chkS F s L G → ∃ c, Per F s L c) ∧ (¬ chkS F s L G → ¬ CanBe F)
theorem settling_of {F : Nat → Int} {L : Nat} {G c : Int} (hp : Per F 400 L c) (hc : chk F L G) : Settling F L G := ⟨fun _ => ⟨c, hp⟩, fun h => absurd hc h⟩

theorem settling_inf {F : Nat → Int} {L : Nat} (h : ∀ t, 400 ≤ t → F t = infV) : Settling F L infV :=
  settling_of (c := 0) (fun t ht => by rw [h t ht, h (t + L) (by omega)]; omega) (fun t h1 _ => by rw [h t h1, h (t + L) (by omega), plI_l])

section
variable {zs ys : List Int} {p q : Nat} {inc jnc : Int}

theorem Good.perL (g : Good zs p inc) (hf : ¬ InfC zs) {L : Nat} (hL : L / p * p = L) : Per (atC zs p inc) 400 L (((L / p : Nat) : Int) * inc) := by
  have h := (g.per hf).mul (L / p)
  rw [hL] at h
  have := g.few
  exact h.mono (by omega)

theorem grow_mid (g : Good zs p inc) {L : Nat} (hL : L ≤ 120) : Mid (growI zs p inc L) := by
  by_cases hi : InfC zs
  · rw [growI_inf hi]; exact .inl rfl
  · rw [growI_fin hi]
    have h0 := g.i0; have h1 := g.i1
    have h2 : L / p ≤ 120 := Nat.le_trans (Nat.div_le_self _ _) hL
    refine .inr ⟨Int.mul_nonneg (Int.natCast_nonneg _) h0, ?_⟩
    have : ((L / p : Nat) : Int) * inc ≤ 120 * 1073741824 := Int.mul_le_mul (by omega) h1 h0 (by omega)
    omega

theorem at_mid (g : Good zs p inc) {t : Nat} (ht : t ≤ 1000) : Mid (atC zs p inc t) := by
  rcases g.seen (t := t) (by omega) with h | ⟨_, h2, h3⟩
  · exact .inl h.2
  · exact .inr ⟨h2, by omega⟩

/-- The value of a curve at a tick that is not late, and the value with infinity. -/
theorem eC_cases (g : Good zs p inc) {t : Nat} (_ht : t ≤ 1048576) : (eC zs p inc t = none ∧ atC zs p inc t = infV) ∨ (∃ x, eC zs p inc t = some x ∧ atC zs p inc t = x ∧ 0 ≤ x ∧ x ≤ 1073741824 * ((t : Int) + 1)) := by
  cases h : eC zs p inc t with
  | none => exact .inl ⟨rfl, (eC_none.1 h).2⟩
  | some x => have := eC_bd g h; exact .inr ⟨x, rfl, this.2.2, this.1, this.2.1⟩

theorem eC_400 (g : Good zs p inc) (hi : InfC zs) {t : Nat} (ht : 399 ≤ t) : eC zs p inc t = none := eC_late g hi (by have := g.few; omega)

/-! ### Sum -/

theorem grow_low (g : Good zs p inc) {L : Nat} (hL : L ≤ 120) : growI zs p inc L = infV ∨ (0 ≤ growI zs p inc L ∧ growI zs p inc L ≤ 1099511627776) := by
  by_cases hi : InfC zs
  · exact .inl (growI_inf hi p inc L)
  · rw [growI_fin hi]
    have h0 := g.i0; have h1 := g.i1
    have h2 : L / p ≤ 120 := Nat.le_trans (Nat.div_le_self _ _) hL
    refine .inr ⟨Int.mul_nonneg (Int.natCast_nonneg _) h0, ?_⟩
    have : ((L / p : Nat) : Int) * inc ≤ 120 * 1073741824 := Int.mul_le_mul (by omega) h1 h0 (by omega)
    omega

/-- Of a finite curve the growth and the early values are small. -/
theorem fin_low (g : Good zs p inc) (hf : ¬ InfC zs) {L : Nat} (hL : L ≤ 120) : (0 ≤ ((L / p : Nat) : Int) * inc ∧ ((L / p : Nat) : Int) * inc ≤ 1099511627776) ∧ ∀ t, t ≤ 1000 → 0 ≤ atC zs p inc t ∧ atC zs p inc t ≤ 1099511627776 := by
  refine ⟨?_, fun t ht => ?_⟩
  · have := grow_low g hL
    rw [growI_fin hf] at this
    rcases this with h | h
    · exfalso
      have h0 := g.i0; have h1 := g.i1
      have h2 : L / p ≤ 120 := Nat.le_trans (Nat.div_le_self _ _) hL
      have : ((L / p : Nat) : Int) * inc ≤ 120 * 1073741824 := Int.mul_le_mul (by omega) h1 h0 (by omega)
      unfold infV at h; omega
    · exact h
  · have := g.bd hf t
    omega

theorem tame_400 {E : Nat → Option Int} (hu : ∀ t, E t = none → E (t + 1) = none) {y : Int} (h : E 400 = some y) (hy : y ≤ 1125899906842624) : Tame E :=
  ⟨hu, .inl ⟨400, Nat.le_refl _, y, h, by unfold infV; omega⟩⟩

/-- Of an infinite sum or maximum the finite values are small. -/
theorem both_some {a b : Option Int} {x : Int} (h : oadd a b = some x) : ∃ y z, a = some y ∧ b = some z ∧ x = y + z := by
  cases a with
  | none => rw [oadd_none_l] at h; cases h
  | some y =>
    cases b with
    | none => cases h
    | some z => exact ⟨y, z, rfl, rfl, by cases h; rfl⟩
/-- In a sum or maximum with an infinite curve the ticks with a finite value are early. -/
theorem early (g : Good zs p inc) (hi : InfC zs) {t : Nat} {y : Int} (h : eC zs p inc t = some y) : t ≤ 399 := by
  refine Nat.le_of_not_lt fun hlt => ?_
  rw [eC_400 g hi (by omega)] at h; cases h

/-! ### One curve -/

def omap (f : Int → Int) : Option Int → Option Int
  | none => none
  | some x => some (f x)

noncomputable def eLater (d : Nat) (zs : List Int) (p : Nat) (inc : Int) (t : Nat) : Option Int := if t < d then some 0 else eC zs p inc (t - d)
noncomputable def eLower (c : Int) (zs : List Int) (p : Nat) (inc : Int) (t : Nat) : Option Int := omap (fun x => max (x - c) 0) (eC zs p inc t)
/-- What is asked of a function that is periodic from a start on. -/
structure FromOk (E : Nat → Option Int) (s P : Nat) : Prop where
  mid : ∀ t, t < s + 2 * P → 0 ≤ encF E t ∧ encF E t ≤ infV
  per : ∃ c, Per (encF E) s P c
  tame : Tame E

theorem later_val (_g : Good zs p inc) {d t : Nat} : enc (eLater d zs p inc t) = if t < d then 0 else atC zs p inc (t - d) := by
  unfold eLater
  by_cases h : t < d
  · rw [if_pos h, if_pos h]; rfl
  · rw [if_neg h, if_neg h, enc_eC]

theorem later_from (g : Good zs p inc) {d : Nat} (hd : d ≤ 401) : FromOk (eLater d zs p inc) (zs.length - p + d) p := by
  have hn := g.few; have h1 := g.p1; have h2 := g.p2; have h3 := g.p3
  refine ⟨fun t ht => ?_, ⟨inc, fun t ht => ?_⟩, fun t h => ?_, ?_⟩
  · unfold encF; rw [later_val g]
    split
    · unfold infV; omega
    · exact at_bd g (by omega)
  · unfold encF; rw [later_val g, later_val g, if_neg (by omega), if_neg (by omega), show t + p - d = t - d + p by omega]
    exact g.perAny _ (by omega)
  · unfold eLater at *
    by_cases hlt : t < d
    · rw [if_pos hlt] at h; cases h
    · rw [if_neg hlt] at h; rw [if_neg (by omega), show t + 1 - d = t - d + 1 by omega]; exact eC_up g h
  · by_cases hi : InfC zs
    · refine .inr fun t x h => ?_
      unfold eLater at h
      by_cases hlt : t < d
      · rw [if_pos hlt] at h; cases h; unfold infV; omega
      · rw [if_neg hlt] at h
        rcases eC_inf g hi (t - d) with h4 | ⟨y, h4, _, h6, h7⟩
        · rw [h4] at h; cases h
        · rw [h4] at h; cases h; unfold infV; omega
    · refine .inl ⟨1000, by omega, atC zs p inc (1000 - d), ?_, ?_⟩
      · unfold eLater; rw [if_neg (by omega), eC_fin hi]
      · have := g.bd hi (1000 - d); unfold infV; omega

theorem lower_val (g : Good zs p inc) {c : Int} {t : Nat} (ht : t ≤ 1048576) : enc (eLower c zs p inc t) = if atC zs p inc t = infV then infV else max (atC zs p inc t - c) 0 := by
  unfold eLower
  rcases eC_cases g ht with ⟨h1, h2⟩ | ⟨x, h1, h2, h3, h4⟩
  · rw [h1, h2, if_pos rfl]; rfl
  · rw [h1, h2, if_neg (by unfold infV; omega)]; rfl

theorem lower_settle (g : Good zs p inc) {c : Int} (hc0 : 0 ≤ c) (hc : c ≤ 1073741824) : Settling (encF (eLower c zs p inc)) p (growI zs p inc p) ∧ Tame (eLower c zs p inc) ∧ ∀ t, t ≤ 1000 → Mid (encF (eLower c zs p inc) t) := by
  have h1 := g.p1; have h2 := g.p2
  have hup : ∀ t, eLower c zs p inc t = none → eLower c zs p inc (t + 1) = none := fun t h => by
    unfold eLower at *
    cases h4 : eC zs p inc t with
    | none => rw [eC_up g h4]; rfl
    | some x => rw [h4] at h; cases h
  refine ⟨?_, ⟨hup, ?_⟩, fun t ht => ?_⟩
  · by_cases hi : InfC zs
    · rw [growI_inf hi]
      exact settling_inf fun t ht => by unfold encF eLower; rw [eC_400 g hi (by omega)]; rfl
    have hv : encF (eLower c zs p inc) = maxF (fun t => atC zs p inc t - c) (fun _ => 0) := funext fun t => by unfold encF eLower; rw [eC_fin hi]; rfl
    have hself : p / p * p = p := by rw [Nat.div_self (by omega), Nat.one_mul]
    have ha0 := g.perL hi hself
    obtain ⟨g1, g2⟩ := fin_low g hi h2
    rw [growI_fin hi, hv]
    generalize ((p / p : Nat) : Int) * inc = ca at *
    have ha : Per (fun t => atC zs p inc t - c) 400 p ca := fun t ht => by
      have := ha0 t ht
      show atC zs p inc (t + p) - c = atC zs p inc t - c + ca
      omega
    have hb : Per (fun _ => (0 : Int)) 400 p 0 := fun t ht => by show (0 : Int) = 0 + 0; omega
    have hca : max ca 0 = ca := by omega
    have hch : ∀ t, 400 ≤ t → t < 400 + p → plI (maxF (fun t => atC zs p inc t - c) (fun _ => 0) t) ca = maxF (fun t => atC zs p inc t - c) (fun _ => 0) t + max ca 0 := fun t h1 h2 => by
      have a1 := g2 t (by omega)
      rw [hca]
      exact plI_fin (by show ¬ max (atC zs p inc t - c) 0 = infV; unfold infV; omega) (by unfold infV; omega)
    refine ⟨fun hc => ⟨_, max_found ha hb h1 fun t h3 h4 => by rw [hc t h3 h4, hch t h3 h4]⟩, fun hc hcan => hc fun t h3 h4 => ?_⟩
    obtain ⟨S', hS⟩ := max_late ha hb h1
    rw [hch t h3 h4]
    exact hcan.late hS t h3
  · by_cases hi : InfC zs
    · refine .inr fun t x h => ?_
      unfold eLower at h
      rcases eC_inf g hi t with h4 | ⟨y, h4, _, h6, h7⟩
      · rw [h4] at h; cases h
      · rw [h4] at h; cases h; show ¬ max (y - c) 0 = infV; unfold infV; omega
    · refine .inl ⟨400, by omega, max (atC zs p inc 400 - c) 0, ?_, ?_⟩
      · unfold eLower; rw [eC_fin hi]; rfl
      · have := g.bd hi 400; unfold infV; omega
  · unfold encF; rw [lower_val g (by omega)]
    have := at_mid g ht
    split
    · exact .inl rfl
    · rename_i hne
      unfold Mid infV at *; omega

end

end Go.Proofs.YtkienpbmoilheaaGreat

namespace Go.Proofs.YtkienpbmoilheaaGreat

end Go.Proofs.YtkienpbmoilheaaGreat

namespace Go.Proofs.YtkienpbmoilheaaGreat

section
variable {zs ys : List Int} {p q most : Nat} {inc jnc : Int}

theorem eC_mono (g : Good zs p inc) {t : Nat} {x y : Int} (h : eC zs p inc t = some x) (k : eC zs p inc (t + 1) = some y) : x ≤ y := by
  have h1 := (eC_bd g h).2.2
  have h2 := (eC_bd g k).2.2
  have := g.step t
  omega

end

end Go.Proofs.YtkienpbmoilheaaGreat

namespace Go.Proofs.YtkienpbmoilheaaGreat

section
variable {zs ys : List Int} {p q most : Nat} {inc jnc k : Int}

end

end Go.Proofs.YtkienpbmoilheaaGreat

namespace Go.Proofs.YtkienpbmoilheaaGreat

/-- At most, where none is the greatest. -/
def ole (a b : Option Int) : Prop := ∀ y, b = some y → ∃ x, a = some x ∧ x ≤ y

theorem ole_refl (a : Option Int) : ole a a := fun y h => ⟨y, h, Int.le_refl _⟩
theorem ole_none (a : Option Int) : ole a none := fun y h => by cases h
theorem ole_some {x y : Int} (h : x ≤ y) : ole (some x) (some y) := fun z hz => by cases hz; exact ⟨x, rfl, h⟩
theorem ole_trans {a b c : Option Int} (h : ole a b) (k : ole b c) : ole a c := fun z hz => by
  obtain ⟨y, hy, h1⟩ := k z hz
  obtain ⟨x, hx, h2⟩ := h y hy
  exact ⟨x, hx, by omega⟩
end Go.Proofs.YtkienpbmoilheaaGreat

namespace Go.Proofs.YtkienpbmoilheaaGreat

section
variable {zs : List Int} {p : Nat} {inc : Int}

end

end Go.Proofs.YtkienpbmoilheaaGreat

namespace Go.Proofs.YtkienpbmoilheaaGreat

theorem encF_some {E : Nat → Option Int} {t : Nat} {x : Int} (h : E t = some x) : encF E t = x := by unfold encF; rw [h]; rfl
theorem encF_none {E : Nat → Option Int} {t : Nat} (h : E t = none) : encF E t = infV := by unfold encF; rw [h]; rfl

/-! ## The same from some tick on: minima and maxima -/

/-- In the end periodic by 24 ticks, and infinite or not. -/
def Day (E : Nat → Option Int) : Prop := ∃ s c, Per (encF E) s 24 c ∧ ((∀ t, s ≤ t → E t = none) ∨ ∀ t, s ≤ t → E t = some (encF E t))

theorem Day.per {E : Nat → Option Int} (h : Day E) : ∃ s c, Per (encF E) s 24 c := by obtain ⟨s, c, h, _⟩ := h; exact ⟨s, c, h⟩

theorem Day.of {E : Nat → Option Int} (h : Day E) {zs : List Int} {p : Nat} {inc : Int} (he : ∀ t, eC zs p inc t = E t) : Day (eC zs p inc) := by rw [show eC zs p inc = E from funext he]; exact h

theorem day_none {E : Nat → Option Int} {s : Nat} (h : ∀ t, s ≤ t → E t = none) : Day E :=
  ⟨s, 0, fun t ht => by rw [encF_none (h t ht), encF_none (h (t + 24) (by omega))]; omega, .inl h⟩

theorem day_some {E : Nat → Option Int} {F : Nat → Int} {s : Nat} {c : Int} (h : ∀ t, s ≤ t → E t = some (F t)) (hp : Per F s 24 c) : Day E :=
  ⟨s, c, fun t ht => by rw [encF_some (h t ht), encF_some (h (t + 24) (by omega))]; exact hp t ht, .inr fun t ht => by rw [encF_some (h t ht)]; exact h t ht⟩

theorem Day.min {E E' : Nat → Option Int} (h : Day E) (k : Day E') : Day (fun t => omin (E t) (E' t)) := by
  obtain ⟨s, c, hp, hn | hs⟩ := h
  · obtain ⟨s', c', kp, kn | ks⟩ := k
    · exact day_none (s := max s s') fun t ht => by show omin (E t) (E' t) = none; rw [hn t (by omega), kn t (by omega)]; rfl
    · exact day_some (s := max s s') (F := encF E') (fun t ht => by show omin (E t) (E' t) = _; rw [hn t (by omega), ks t (by omega)]; rfl) (kp.mono (by omega))
  · obtain ⟨s', c', kp, kn | ks⟩ := k
    · exact day_some (s := max s s') (F := encF E) (fun t ht => by show omin (E t) (E' t) = _; rw [hs t (by omega), kn t (by omega)]; rfl) (hp.mono (by omega))
    · obtain ⟨S, hS⟩ := min_late (hp.mono (show s ≤ s + s' by omega)) (kp.mono (show s' ≤ s + s' by omega)) (show 1 ≤ 24 by omega)
      exact day_some (s := s + s' + S) (F := minF (encF E) (encF E')) (fun t ht => by
        show omin (E t) (E' t) = some (Min.min (encF E t) (encF E' t))
        have e1 := hs t (by omega)
        have e2 := ks t (by omega)
        rw [e1, e2]; rfl) (hS.mono (by omega))

theorem Day.max {E E' : Nat → Option Int} (h : Day E) (k : Day E') : Day (fun t => omax (E t) (E' t)) := by
  obtain ⟨s, c, hp, hn | hs⟩ := h
  · exact day_none (s := s) fun t ht => by show omax (E t) (E' t) = none; rw [hn t (by omega), omax_none_l]
  · obtain ⟨s', c', kp, kn | ks⟩ := k
    · exact day_none (s := s') fun t ht => by show omax (E t) (E' t) = none; rw [kn t (by omega), omax_none_r]
    · obtain ⟨S, hS⟩ := max_late (hp.mono (show s ≤ s + s' by omega)) (kp.mono (show s' ≤ s + s' by omega)) (show 1 ≤ 24 by omega)
      exact day_some (s := s + s' + S) (F := maxF (encF E) (encF E')) (fun t ht => by
        show omax (E t) (E' t) = some (Max.max (encF E t) (encF E' t))
        have e1 := hs t (by omega)
        have e2 := ks t (by omega)
        rw [e1, e2]; rfl) (hS.mono (by omega))

/-! ## What a reduction needs -/

/-! ## Greater curves have greater results -/

end Go.Proofs.YtkienpbmoilheaaGreat

namespace Go.Proofs.YtkienpbmoilheaaGreat

/-! ## Sums, minima and maxima distribute -/

end Go.Proofs.YtkienpbmoilheaaGreat

namespace Go.Proofs.YtkienpbmoilheaaGreat
set_option linter.unusedVariables false

theorem ole_anti {a b : Option Int} (h : ole a b) (k : ole b a) : a = b := by
  cases b with
  | some y =>
    obtain ⟨x, rfl, hx⟩ := h y rfl
    obtain ⟨z, hz, hy⟩ := k x rfl
    cases hz
    congr 1; omega
  | none =>
    cases a with
    | none => rfl
    | some x => obtain ⟨z, hz, _⟩ := k x rfl; cases hz
/-! ## The greatest so far -/

section
variable {D D' : Nat → Option Int}
end

section
variable {d : Nat → Int} {S L : Nat} {δ : Int}
end

/-! ## The least from a tick on -/

section
variable {D D' : Nat → Option Int}
end

/-! ## The differences of two curves -/

/-- A common multiple of two periods. -/
structure Mult (p q L : Nat) : Prop where
  one : 1 ≤ L
  dp : L / p * p = L
  dq : L / q * q = L
theorem Lcm.mult {p q L : Nat} (h : Lcm p q L) : Mult p q L := ⟨h.one, h.dp, h.dq⟩


section
variable {zs ys : List Int} {p q : Nat} {inc jnc : Int}
/-! ### The greatest so far -/

theorem tame_mid {E : Nat → Option Int} (hu : ∀ t, E t = none → E (t + 1) = none) (hb : ∀ t x, t ≤ 400 → E t = some x → x ≤ 1125899906842624) : Tame E := by
  cases h : E 400 with
  | some y => exact tame_400 hu h (hb 400 y (Nat.le_refl _) h)
  | none =>
    refine ⟨hu, .inr fun t x hx => ?_⟩
    by_cases ht : t ≤ 400
    · have := hb t x ht hx; unfold infV; omega
    · have := stays hu h (t - 400)
      rw [show 400 + (t - 400) = t by omega, hx] at this
      cases this
/-! ### The least from a tick on -/

end

end Go.Proofs.YtkienpbmoilheaaGreat

namespace Go.Proofs.YtkienpbmoilheaaGreat

/-- A function that is given like a curve, all finite. -/
structure RawC (zs : List Int) (p : Nat) (inc : Int) : Prop where
  few : zs.length ≤ 8192
  p1 : 1 ≤ p
  p2 : p ≤ 1024
  p3 : p ≤ zs.length
  i0 : 0 ≤ inc
  i1 : inc ≤ 35184372088832
  val : ∀ i, i < zs.length → 0 ≤ zs.getD i 0 ∧ zs.getD i 0 ≤ 2251799813685248

theorem RawC.fin {zs : List Int} {p : Nat} {inc : Int} (h : RawC zs p inc) : ¬ zs.getD (zs.length - 1) 0 = infV := by
  have h1 := h.p1; have h3 := h.p3
  have := h.val (zs.length - 1) (by omega)
  unfold infV; omega
theorem RawC.small {zs : List Int} {p : Nat} {inc : Int} (h : RawC zs p inc) {i : Nat} (hi : i < zs.length) : 0 ≤ zs.getD i 0 ∧ zs.getD i 0 ≤ 2251799813685248 := h.val i hi
theorem RawC.per {zs : List Int} {p : Nat} {inc : Int} (h : RawC zs p inc) : Per (atC zs p inc) (zs.length - p) p inc := atC_per h.p1 h.p3 h.fin
theorem RawC.bd {zs : List Int} {p : Nat} {inc : Int} (h : RawC zs p inc) (t : Nat) : 0 ≤ atC zs p inc t ∧ atC zs p inc t ≤ 2251799813685248 + 35184372088832 * ((t : Int) + 1) := by
  have h0 := h.i0
  have h1 := h.i1
  induction t using Nat.strongRecOn with
  | ind t ih =>
    have hp := h.p3; have hp1 := h.p1
    by_cases hlt : t < zs.length
    · rw [atC_lt hlt]; have := h.small hlt; omega
    · have e := h.per (t - p) (by omega)
      have := ih (t - p) (by omega)
      rw [show t - p + p = t by omega] at e
      omega

theorem raw_tame {zs : List Int} {p : Nat} {inc : Int} {E : Nat → Option Int} (h : RawC zs p inc) (hE : ∀ t, E t = some (atC zs p inc t)) : Tame E :=
  ⟨fun t hx => (by rw [hE] at hx; cases hx), .inl ⟨400, Nat.le_refl _, _, hE 400, by have := h.bd 400; unfold infV; omega⟩⟩

theorem raw_form {zs : List Int} {p : Nat} {inc : Int} {E : Nat → Option Int} (h : RawC zs p inc) (hE : ∀ t, E t = some (atC zs p inc t)) {s r : Nat} {c : Int} (hn : NormOf (atC zs p inc) s r c) :
    (Good (firsts (atC zs p inc) (s + r)) r c → EForm (firsts (atC zs p inc) (s + r)) r c E) ∧ (¬ Good (firsts (atC zs p inc) (s + r)) r c → ¬ ECan E) := by
  have hF : encF E = atC zs p inc := funext fun t => by unfold encF; rw [hE]; rfl
  refine ⟨fun g => eform_of (raw_tame h hE) (by rw [hF]; exact form_of hn g), fun hno hc => no_form hn hno ?_⟩
  have := hc.can
  rwa [hF] at this

theorem raw_inf {zs : List Int} {i : Nat} {E : Nat → Option Int} (hi : i < zs.length) (hz : zs.getD i 0 = infV) (hj : ∀ j, j < i → ¬ zs.getD j 0 = infV) (hE : ∀ t, E t = if t < i then some (zs.getD t 0) else none) :
    (Good (zs.take (i + 1)) 1 0 → EForm (zs.take (i + 1)) 1 0 E) ∧ (¬ Good (zs.take (i + 1)) 1 0 → ¬ ECan E) := by
  have hl : (zs.take (i + 1)).length = i + 1 := by rw [List.length_take]; omega
  have hlast : InfC (zs.take (i + 1)) := by rw [infC_iff, hl, Nat.add_sub_cancel, getD_take (by omega)]; exact hz
  constructor
  · intro g
    have hN : NormC (zs.take (i + 1)) 1 0 (zs.take (i + 1)) 1 0 := .inr ⟨i, by omega, by rw [getD_take (by omega)]; exact hz, fun j h => by rw [getD_take (by omega)]; exact hj j h, by rw [List.take_take, Nat.min_self], rfl, rfl⟩
    have hf := hN.eform g
    rw [show eC (zs.take (i + 1)) 1 0 = E from funext fun t => ?_] at hf
    · exact hf
    rw [hE]
    by_cases ht : t < i
    · rw [if_pos ht]
      unfold eC
      have e : atC (zs.take (i + 1)) 1 0 t = zs.getD t 0 := by rw [atC_lt (by omega), getD_take (by omega)]
      rw [e, if_neg (fun hx => hj t ht hx.2)]
    · rw [if_neg ht]
      exact eC_late g hlast (by omega)
  · rintro hno ⟨xs, q, j, g, he⟩
    have h0 : eC xs q j i = none := by rw [he, hE, if_neg (Nat.lt_irrefl _)]
    obtain ⟨hx, ha⟩ := eC_none.1 h0
    have hlow : ∀ t, t < i → atC xs q j t = zs.getD t 0 := fun t ht => by
      have h1 : eC xs q j t = some (zs.getD t 0) := by rw [he, hE, if_pos ht]
      exact (eC_bd g h1).2.2
    have h1 := g.p1; have h3 := g.p3
    have hlen : i < xs.length := by
      refine Nat.lt_of_not_le fun hle => ?_
      have e := hlow (xs.length - 1) (by omega)
      rw [atC_inf hx (Nat.le_refl _) (by omega)] at e
      exact hj _ (by omega) e.symm
    have htk : xs.take (i + 1) = zs.take (i + 1) := list_ext_getD (by rw [hl, List.length_take]; omega) fun k hk => by
      rw [List.length_take] at hk
      rw [getD_take (by omega), getD_take (by omega)]
      by_cases hki : k < i
      · rw [← hlow k hki, atC_lt (by omega)]
      · rw [show k = i by omega, hz, ← ha, atC_lt hlen]
    have hN : NormC xs q j (zs.take (i + 1)) 1 0 := .inr ⟨i, hlen, by rw [← atC_lt (p := q) (inc := j) hlen]; exact ha, fun k hk => by rw [← atC_lt (p := q) (inc := j) (show k < xs.length by omega), hlow k hk]; exact hj k hk, htk.symm, rfl, rfl⟩
    exact hno (hN.good g)

/-- What is handed to Made: the values up to a tick from which on they grow in each period, or up to an infinite one. -/
def RawE (zs : List Int) (p : Nat) (inc : Int) (E : Nat → Option Int) : Prop :=
  (RawC zs p inc ∧ ∀ t, E t = some (atC zs p inc t)) ∨
  (zs.length ≤ 8192 ∧ ∃ i, i < zs.length ∧ zs.getD i 0 = infV ∧ (∀ j, j < i → ¬ zs.getD j 0 = infV) ∧ ∀ t, E t = if t < i then some (zs.getD t 0) else none)

theorem rawE_of {E : Nat → Option Int} {N L : Nat} {inc : Int} (hN : N ≤ 8192) (h1 : 1 ≤ L) (h2 : L ≤ 1024) (h3 : L ≤ N) (hi : 0 ≤ inc ∧ inc ≤ 35184372088832)
    (up : ∀ t, E t = none → E (t + 1) = none) (bd : ∀ t, t < N → ∀ x, E t = some x → 0 ≤ x ∧ x ≤ 2251799813685248)
    (fin : (∀ t, ¬ E t = none) → Per (encF E) (N - L) L inc) (inf : (∃ t, E t = none) → ∃ t, t < N ∧ E t = none) : RawE (firsts (encF E) N) L inc E := by
  have hl := firsts_length (encF E) N
  by_cases h : ∃ t, E t = none
  · obtain ⟨i, hz, hj⟩ := least_ex h
    obtain ⟨u, hu, hu0⟩ := inf h
    have hiN : i < N := by
      refine Nat.lt_of_not_le fun hle => ?_
      exact hj u (by omega) hu0
    refine .inr ⟨by omega, i, by omega, ?_, fun j hji hx => ?_, fun t => ?_⟩
    · rw [firsts_getD _ _ _ hiN]; unfold encF; rw [hz]; rfl
    · rw [firsts_getD _ _ _ (by omega)] at hx
      cases hE : E j with
      | none => exact hj j hji hE
      | some x => unfold encF at hx; rw [hE] at hx; have := bd j (by omega) x hE; change x = infV at hx; unfold infV at hx; omega
    · by_cases ht : t < i
      · rw [if_pos ht, firsts_getD _ _ _ (by omega)]
        cases hE : E t with
        | none => exact absurd hE (hj t ht)
        | some x => unfold encF; rw [hE]; rfl
      · rw [if_neg ht]
        have := stays up hz (t - i)
        rwa [show i + (t - i) = t by omega] at this
  · have hs : ∀ t, ¬ E t = none := fun t hx => h ⟨t, hx⟩
    have hv : ∀ t, E t = some (encF E t) := fun t => by
      cases hE : E t with
      | none => exact absurd hE (hs t)
      | some x => unfold encF; rw [hE]; rfl
    have hr : RawC (firsts (encF E) N) L inc := ⟨by omega, h1, h2, by omega, hi.1, hi.2, fun i hi => by
      rw [hl] at hi
      rw [firsts_getD _ _ _ hi]
      exact bd i hi _ (hv i)⟩
    refine .inl ⟨hr, fun t => ?_⟩
    rw [hv]
    congr 1
    have hp := hr.per
    rw [hl] at hp
    exact ((fin hs).ext hp h1 fun t ht => by rw [atC_lt (by omega), firsts_getD _ _ _ (by omega)]) t


section
variable {zs ys : List Int} {p q : Nat} {inc jnc : Int}

theorem inf_none (g : Good zs p inc) (h : ∃ t, eC zs p inc t = none) : eC zs p inc (zs.length - 1) = none := by
  obtain ⟨t, ht⟩ := h
  exact eC_late g (eC_none.1 ht).1 (Nat.le_refl _)

theorem fin_of (g : Good zs p inc) (h : ∀ t, ¬ eC zs p inc t = none) : ¬ InfC zs := fun hi => h _ (eC_late g hi (Nat.le_refl _))

end

end Go.Proofs.YtkienpbmoilheaaGreat

namespace Go.Proofs.YtkienpbmoilheaaGreat

section
variable {zs ys : List Int} {p q : Nat} {inc jnc : Int}

/-! ## Sums -/

theorem grow_bd (g : Good zs p inc) {L : Nat} (hL2 : L ≤ 120) : 0 ≤ inc * ((L / p : Nat) : Int) ∧ inc * ((L / p : Nat) : Int) ≤ 128849018880 := by
  have h0 := g.i0; have h1 := g.i1
  have h2 : L / p ≤ 120 := Nat.le_trans (Nat.div_le_self _ _) hL2
  generalize L / p = m at h2 ⊢
  have : inc * (m : Int) ≤ 1073741824 * 120 := Int.mul_le_mul h1 (by omega) (by omega) (by omega)
  exact ⟨Int.mul_nonneg h0 (by omega), by omega⟩

theorem Good.perM (g : Good zs p inc) (hf : ¬ InfC zs) {L m : Nat} (hL : L / p * p = L) (hm : zs.length - p ≤ m) : Per (atC zs p inc) m L (inc * ((L / p : Nat) : Int)) := by
  have h := (g.per hf).mul (L / p)
  rw [hL, Int.mul_comm] at h
  exact h.mono hm

/-! ## The lesser and the greater of two -/

/-- Where a curve is below one that grows less, the lesser and the greater one of them are no curves. -/
theorem over {a b : Nat → Int} {L : Nat} {ca cb : Int} (ha : Per a 400 L ca) (hb : Per b 400 L cb) (hL : 1 ≤ L) {u : Nat} (hu : 400 ≤ u) (hne : a u < b u) (hlt : cb < ca) : ¬ CanBe (minF a b) ∧ ¬ CanBe (maxF a b) := by
  have hd : Per (fun t => b t - a t) 400 L (cb - ca) := fun t ht => by have := ha t ht; have := hb t ht; show b (t + L) - a (t + L) = b t - a t + (cb - ca); omega
  obtain ⟨S, _, hf⟩ := falls hd hL (by omega)
  have hS : S ≤ S * L := Nat.le_mul_of_pos_right _ hL
  have e1 := ha.mul S u hu
  have e2 := hb.mul S u hu
  have e3 : b (u + S * L) - a (u + S * L) ≤ 0 := hf (u + S * L) (by omega)
  constructor
  · intro hc
    obtain ⟨S', hm⟩ := min_late ha hb hL
    have h := (hc.late hm).mul S u hu
    rw [show min ca cb = cb by omega] at h
    unfold minF at h
    omega
  · intro hc
    obtain ⟨S', hm⟩ := max_late ha hb hL
    have h := (hc.late hm).mul S u hu
    rw [show max ca cb = ca by omega] at h
    unfold maxF at h
    omega

/-! ## One curve -/

theorem omap_no {f : Int → Int} {x : Option Int} (h : omap f x = none) : x = none := by cases x with
  | none => rfl
  | some y => cases h
theorem omap_some {f : Int → Int} {x : Option Int} {y : Int} (h : omap f x = some y) : ∃ z, x = some z ∧ y = f z := by cases x with
  | none => cases h
  | some z => cases h; exact ⟨z, rfl, rfl⟩

theorem lower_no (g : Good zs p inc) {c : Int} (f1 : ¬ InfC zs) (hi : 0 < inc) (h : atC zs p inc 400 < c) : ¬ ECan (eLower c zs p inc) := by
  have gf := g.few
  have hp : Per (fun t => atC zs p inc t - c) 400 p inc := fun t ht => by have := (g.per f1) t (by omega); show atC zs p inc (t + p) - c = atC zs p inc t - c + inc; omega
  have h0 : Per (fun _ => (0 : Int)) 400 p 0 := fun t ht => rfl
  have hn := (over hp h0 g.p1 (Nat.le_refl _) (show atC zs p inc 400 - c < 0 by omega) hi).2
  have e : encF (eLower c zs p inc) = maxF (fun t => atC zs p inc t - c) (fun _ => 0) := funext fun t => encF_some (by unfold eLower; rw [eC_fin f1]; rfl)
  intro hc
  have := hc.can
  rw [e] at this
  exact hn this

end

end Go.Proofs.YtkienpbmoilheaaGreat

namespace Go.Proofs.YtkienpbmoilheaaGreat
set_option linter.unusedSimpArgs false
set_option linter.unusedVariables false

/-- A curve that is 0 at first, without its first tick. -/
theorem can_tail {E : Nat → Option Int} (h : ECan E) (h0 : E 0 = some 0) : ECan (fun t => E (t + 1)) := by
  obtain ⟨zs, p, inc, g, he⟩ := h
  have g1 := g.p1; have g2 := g.p2; have g3 := g.p3; have gf := g.few; have gi := g.i1; have gi0 := g.i0
  by_cases hi : InfC zs
  · obtain ⟨i, hz, hj⟩ := least_ex (P := fun t => eC zs p inc t = none) ⟨zs.length - 1, eC_late g hi (Nat.le_refl _)⟩
    have hil : i ≤ zs.length - 1 := Nat.le_of_not_lt fun hlt => hj _ hlt (eC_late g hi (Nat.le_refl _))
    have hi0 : i ≠ 0 := fun h => by rw [h, he, h0] at hz; cases hz
    have hv : ∀ t, t < i → eC zs p inc t = some (atC zs p inc t) := fun t ht => by
      rcases eC_inf g hi t with h2 | ⟨x, h2, h3, _⟩
      · exact absurd h2 (hj t ht)
      · rw [h2, h3]
    refine can_inf (F := fun t => atC zs p inc (t + 1)) (i := i - 1) (by omega) (fun t ht => ?_) (fun t ht => ?_) (fun t ht => ?_) (fun t ht => g.step _)
    · show E (t + 1) = _
      rw [← he, hv _ (by omega)]
    · show E (t + 1) = none
      rw [← he]
      have := stays (E := eC zs p inc) (fun t h => eC_up g h) hz (t + 1 - i)
      rwa [show i + (t + 1 - i) = t + 1 by omega] at this
    · rcases eC_inf g hi (t + 1) with h2 | ⟨x, h2, h3, h4, h5⟩
      · exact absurd h2 (hj _ (by omega))
      · show 0 ≤ atC zs p inc (t + 1) ∧ atC zs p inc (t + 1) ≤ 1073741824
        rw [h3]; exact ⟨h4, h5⟩
  · have hp := g.per hi
    have hE : ∀ t, E t = some (atC zs p inc t) := fun t => by rw [← he, eC_fin hi]
    have ha0 : atC zs p inc 0 = 0 := by have := hE 0; rw [h0] at this; injection this with this; exact this.symm
    refine can_fin (F := fun t => atC zs p inc (t + 1)) (s := zs.length - p - 1) (p := p) (c := inc) (fun t => hE (t + 1)) (fun t ht => ?_) g1 g2 (by omega) (g.bd hi 1).1 (fun t ht => g.step _) ?_ gi
    · show atC zs p inc (t + p + 1) = atC zs p inc (t + 1) + inc
      rw [show t + p + 1 = t + 1 + p by omega]
      exact hp (t + 1) (by omega)
    · show atC zs p inc (zs.length - p - 1 + p - 1 + 1) ≤ 1073741824
      by_cases hl : zs.length = p
      · rw [show zs.length - p - 1 + p - 1 + 1 = 0 + p by omega, hp 0 (by omega), ha0]
        omega
      · rw [show zs.length - p - 1 + p - 1 + 1 = zs.length - 1 by omega, atC_lt (by omega)]
        exact (g.small hi (by omega)).2

/-- The hop curve, for packets of at most c + 1 bytes. -/
noncomputable def eHop (c : Int) (zs : List Int) (p : Nat) (inc : Int) (t : Nat) : Option Int := if t = 0 then some 0 else eLower c zs p inc (t - 1)
section
variable {zs : List Int} {p : Nat} {inc c : Int}
theorem eHop_succ (t : Nat) : eHop c zs p inc (t + 1) = eLower c zs p inc t := by unfold eHop; rw [if_neg (by omega)]; rfl
theorem hop_can (h : ECan (eHop c zs p inc)) : ECan (eLower c zs p inc) := by
  have := can_tail h rfl
  rwa [show (fun t => eHop c zs p inc (t + 1)) = eLower c zs p inc from funext fun t => eHop_succ t] at this
/-- One tick later than whatever curve has the lowered values. -/
theorem hop_later {ys : List Int} {q : Nat} {j : Int} (he : ∀ t, eC ys q j t = eLower c zs p inc t) : eLater 1 ys q j = eHop c zs p inc := funext fun t => by
  unfold eLater eHop
  by_cases h : t = 0
  · rw [if_pos (by omega), if_pos h]
  · rw [if_neg (by omega), if_neg h, he]
theorem hop_raw (g : Good zs p inc) (hc0 : 0 ≤ c) (hd : ¬ InfC zs → 0 < inc → c ≤ atC zs p inc 400) :
    RawE (firsts (encF (eHop c zs p inc)) (401 + p)) p inc (eHop c zs p inc) := by
  have g1 := g.p1; have g2 := g.p2; have g3 := g.p3; have gf := g.few; have h0 := g.i0; have h1 := g.i1
  refine rawE_of (by omega) g1 (by omega) (by omega) (by omega) (fun t h => ?_) (fun t ht x hx => ?_) (fun hs => ?_) (fun h => ?_)
  · rw [eHop_succ]
    unfold eHop at h
    by_cases h2 : t = 0
    · rw [if_pos h2] at h; cases h
    · rw [if_neg h2] at h
      unfold eLower at h ⊢
      have := eC_up g (omap_no h)
      rw [show t - 1 + 1 = t by omega] at this
      rw [this]; rfl
  · unfold eHop at hx
    by_cases h2 : t = 0
    · rw [if_pos h2] at hx; cases hx; omega
    · rw [if_neg h2] at hx
      unfold eLower at hx
      obtain ⟨z, hz, rfl⟩ := omap_some hx
      have := eC_bd g hz
      omega
  · rw [Nat.add_sub_cancel]
    have f1 : ¬ InfC zs := fin_of g fun t h => hs (t + 1) (by rw [eHop_succ]; unfold eLower; rw [h]; rfl)
    have e : ∀ t, encF (eHop c zs p inc) (t + 1) = max (atC zs p inc t - c) 0 := fun t => encF_some (by rw [eHop_succ]; unfold eLower; rw [eC_fin f1]; rfl)
    intro t ht
    obtain ⟨t, rfl⟩ : ∃ s, t = s + 1 := ⟨t - 1, by omega⟩
    rw [show t + 1 + p = (t + p) + 1 by omega, e, e]
    have hp := (g.per f1) t (by omega)
    rw [hp]
    by_cases hi : inc = 0
    · rw [hi]; omega
    · have hup := g.up (t - 400) 400
      rw [show 400 + (t - 400) = t by omega] at hup
      have := hd f1 (by omega)
      omega
  · obtain ⟨t, ht⟩ := h
    have ht2 : ¬ t = 0 := fun h => by rw [h] at ht; cases ht
    refine ⟨zs.length - 1 + 1, by omega, ?_⟩
    rw [eHop_succ]
    unfold eHop at ht
    rw [if_neg ht2] at ht
    unfold eLower at ht ⊢
    rw [inf_none g ⟨t - 1, omap_no ht⟩]; rfl
theorem hop_no (g : Good zs p inc) (f1 : ¬ InfC zs) (hi : 0 < inc) (h : atC zs p inc 400 < c) : ¬ ECan (eHop c zs p inc) := fun hc => lower_no g f1 hi h (hop_can hc)
/-- The value at a tick. -/
theorem hop_val (t : Nat) : encF (eHop c zs p inc) (t + 1) = if eC zs p inc t = none then infV else max (atC zs p inc t - c) 0 := by
  show enc (eHop c zs p inc (t + 1)) = _
  rw [eHop_succ]
  unfold eLower eC
  by_cases h : InfC zs ∧ atC zs p inc t = infV
  · rw [if_pos h, if_pos rfl]; rfl
  · rw [if_neg h, if_neg (fun hh => by cases hh)]; rfl
end
end Go.Proofs.YtkienpbmoilheaaGreat

namespace Go.Proofs.YtkienpbmoilheaaGreat
set_option linter.unusedVariables false

/-! ### The convolution of two functions with infinity -/

theorem ole_oadd2 {a b c d : Option Int} (h : ole a c) (k : ole b d) : ole (oadd a b) (oadd c d) := fun y hy => by
  obtain ⟨u, v, rfl, rfl, rfl⟩ := both_some hy
  obtain ⟨x, rfl, hx⟩ := h u rfl
  obtain ⟨z, rfl, hz⟩ := k v rfl
  exact ⟨x + z, rfl, by omega⟩

variable {a b c a' b' : Nat → Option Int}

/-! ### Two finite functions -/

variable {x y C : Nat → Int} {sa sb L : Nat} {ra rb : Int}

/-! ### The convolution of two curves -/

variable {zs ys : List Int} {p q : Nat} {inc jnc : Int}

theorem at_mid2 (g : Good zs p inc) {t : Nat} (ht : t ≤ 100000) : Mid (atC zs p inc t) := by
  rcases eC_cases g (show t ≤ 1048576 by omega) with ⟨_, h2⟩ | ⟨x, _, h2, h3, h4⟩
  · exact .inl h2
  · exact .inr (by rw [h2]; exact ⟨h3, by omega⟩)

theorem growI_mul {L : Nat} (hf : ¬ InfC zs) : growI zs p inc L = inc * ((L / p : Nat) : Int) := by rw [growI_fin hf, Int.mul_comm]

end Go.Proofs.YtkienpbmoilheaaGreat

namespace Go.Proofs.YtkienpbmoilheaaGreat
set_option linter.unusedVariables false

variable {zs ys hs : List Int} {p q r : Nat} {inc jnc knc : Int}

end Go.Proofs.YtkienpbmoilheaaGreat

namespace Go.Proofs.YtkienpbmoilheaaGreat
set_option linter.unusedVariables false

section
variable {a a' b b' c : Nat → Option Int} {t : Nat}

/-- v is at least every difference at the tick t. -/
def UB (a b : Nat → Option Int) (t : Nat) (v : Option Int) : Prop := ∀ u y, b u = some y → ole (a (t + u)) (oadd v (some y))
def IsSup (a b : Nat → Option Int) (t : Nat) (v : Option Int) : Prop := UB a b t v ∧ ∀ v', UB a b t v' → ole v v'

theorem UB.mono {v v' : Option Int} (h : UB a b t v) (k : ole v v') : UB a b t v' := fun u y hy => ole_trans (h u y hy) (ole_oadd2 k (ole_refl _))
theorem IsSup.unique {v v' : Option Int} (h : IsSup a b t v) (k : IsSup a b t v') : v = v' := ole_anti (h.2 _ k.1) (k.2 _ h.1)

theorem sup_ex (h0 : b 0 = some 0) (t : Nat) : ∃ v, IsSup a b t v := by
  by_cases h : ∃ x, UB a b t (some x)
  · obtain ⟨x, hx⟩ := h
    obtain ⟨z, hz, hzx⟩ := hx 0 0 h0 _ rfl
    have key : ∀ n (x : Int), UB a b t (some x) → (x - z).toNat ≤ n → ∃ v, IsSup a b t v := by
      intro n
      induction n with
      | zero =>
        intro x hx hn
        refine ⟨some x, hx, fun v' hv => ?_⟩
        cases v' with
        | none => exact ole_none _
        | some x' =>
          obtain ⟨z2, hz2, hz3⟩ := hv 0 0 h0 _ rfl
          rw [hz] at hz2; cases hz2
          exact ole_some (by omega)
      | succ n ih =>
        intro x hx hn
        by_cases hl : ∃ x', x' < x ∧ UB a b t (some x')
        · obtain ⟨x', hl, hx'⟩ := hl
          obtain ⟨z2, hz2, hz3⟩ := hx' 0 0 h0 _ rfl
          rw [hz] at hz2; cases hz2
          exact ih x' hx' (by omega)
        · refine ⟨some x, hx, fun v' hv => ?_⟩
          cases v' with
          | none => exact ole_none _
          | some x' => exact ole_some (Int.not_lt.1 fun hlt => hl ⟨x', hlt, hv⟩)
    exact key _ x hx (Nat.le_refl _)
  · exact ⟨none, fun u y hy => by rw [oadd_none_l]; exact ole_none _, fun v' hv => by
      cases v' with
      | none => exact ole_none _
      | some x => exact absurd ⟨x, hv⟩ h⟩

open Classical in
/-- The deconvolution. -/
noncomputable def oDec (a b : Nat → Option Int) (t : Nat) : Option Int := if h : ∃ v, IsSup a b t v then Classical.choose h else none
theorem dec_is (h0 : b 0 = some 0) (t : Nat) : IsSup a b t (oDec a b t) := by
  unfold oDec; rw [dif_pos (sup_ex h0 t)]; exact Classical.choose_spec (sup_ex h0 t)
theorem dec_eq (h0 : b 0 = some 0) {v : Option Int} (h : IsSup a b t v) : oDec a b t = v := (dec_is h0 t).unique h
theorem dec_le_iff (h0 : b 0 = some 0) {v : Option Int} : ole (oDec a b t) v ↔ UB a b t v := ⟨fun h => (dec_is h0 t).1.mono h, fun h => (dec_is h0 t).2 _ h⟩

theorem oadd_zero (v : Option Int) : oadd v (some 0) = v := by
  cases v with
  | none => rfl
  | some x => show some (x + 0) = some x; rw [Int.add_zero]
theorem dec_self (h0 : b 0 = some 0) (t : Nat) : ole (a t) (oDec a b t) := by
  have := (dec_is (a := a) h0 t).1 0 0 h0
  rwa [oadd_zero] at this

theorem dec_upward (h0 : b 0 = some 0) (h : ∀ t, ole (a t) (a (t + 1))) (t : Nat) : ole (oDec a b t) (oDec a b (t + 1)) :=
  (dec_le_iff h0).2 fun u y hy => by
    have := (dec_is (a := a) h0 (t + 1)).1 u y hy
    rw [show t + 1 + u = t + u + 1 by omega] at this
    exact ole_trans (h _) this

end

/-! ## What the program computes -/

/-- How far the first function is ahead, u ticks later, of the second one. -/
def gainI (F G : Nat → Int) (t u : Nat) : Int := if F (t + u) = infV then infV else F (t + u) - G u
/-- The greatest one of so many, and 0. -/
def mostTo (F G : Nat → Int) (t : Nat) : Nat → Int
  | 0 => 0
  | n + 1 => max (mostTo F G t n) (gainI F G t n)

theorem mostTo_nn (F G : Nat → Int) (t : Nat) : ∀ n, 0 ≤ mostTo F G t n
  | 0 => Int.le_refl _
  | n + 1 => by have := mostTo_nn F G t n; unfold mostTo; omega
theorem mostTo_le {F G : Nat → Int} {t u : Nat} : ∀ {n : Nat}, u < n → gainI F G t u ≤ mostTo F G t n
  | 0, h => absurd h (Nat.not_lt_zero _)
  | n + 1, h => by
    unfold mostTo
    by_cases e : u = n
    · subst e; omega
    · have := mostTo_le (F := F) (G := G) (t := t) (show u < n by omega); omega
theorem mostTo_found (F G : Nat → Int) (t : Nat) : ∀ n, mostTo F G t n = 0 ∨ ∃ u, u < n ∧ gainI F G t u = mostTo F G t n
  | 0 => .inl rfl
  | n + 1 => by
    by_cases h : mostTo F G t n < gainI F G t n
    · exact .inr ⟨n, by omega, by unfold mostTo; omega⟩
    · have e : mostTo F G t (n + 1) = mostTo F G t n := by show max _ _ = _; omega
      rw [e]
      rcases mostTo_found F G t n with h1 | ⟨u, h1, h2⟩
      · exact .inl h1
      · exact .inr ⟨u, by omega, h2⟩

/-- The greatest one is attained, if the first one is not negative. -/
theorem mostTo_at {F G : Nat → Int} {t n : Nat} (hn : 1 ≤ n) (h0 : 0 ≤ F t) (hG : G 0 = 0) : ∃ u, u < n ∧ gainI F G t u = mostTo F G t n := by
  rcases mostTo_found F G t n with h | h
  · refine ⟨0, by omega, ?_⟩
    have := mostTo_le (F := F) (G := G) (t := t) (show 0 < n by omega)
    rw [h] at this ⊢
    unfold gainI at this ⊢
    rw [Nat.add_zero, hG] at this ⊢
    split at this <;> rename_i e
    · unfold infV at this; omega
    · rw [if_neg e]; omega
  · exact h

/-- The greatest one, told by its properties. -/
theorem mostTo_eq {F G : Nat → Int} {t n : Nat} {v : Int} (hn : 1 ≤ n) (h0 : 0 ≤ F t) (hG : G 0 = 0) (h1 : ∃ u, u < n ∧ gainI F G t u = v) (h2 : ∀ u, u < n → gainI F G t u ≤ v) : mostTo F G t n = v := by
  obtain ⟨u, hu, e⟩ := mostTo_at (F := F) (G := G) (t := t) hn h0 hG
  obtain ⟨u2, hu2, e2⟩ := h1
  have k1 := h2 u hu
  have k2 := mostTo_le (F := F) (G := G) (t := t) hu2
  omega

theorem mostTo_inf {F G : Nat → Int} {t n u : Nat} (hu : u < n) (h : F (t + u) = infV) (hb : ∀ u, u < n → gainI F G t u ≤ infV) : mostTo F G t n = infV := by
  have h1 := mostTo_le (F := F) (G := G) (t := t) hu
  have e : gainI F G t u = infV := by unfold gainI; rw [if_pos h]
  rcases mostTo_found F G t n with h2 | ⟨u2, h2, h3⟩
  · rw [e, h2] at h1; unfold infV at h1; omega
  · have := hb u2 h2; omega

/-- The first tick at which the greatest one of so many is attained. -/
def firstTo (F G : Nat → Int) (t : Nat) : Nat → Nat
  | 0 => 0
  | n + 1 => if mostTo F G t n < gainI F G t n then n else firstTo F G t n

theorem most_yes {F G : Nat → Int} {t n : Nat} (h : mostTo F G t n < gainI F G t n) : mostTo F G t (n + 1) = gainI F G t n ∧ firstTo F G t (n + 1) = n := by
  refine ⟨?_, if_pos h⟩
  show max _ _ = _; omega
theorem most_no {F G : Nat → Int} {t n : Nat} (h : ¬ mostTo F G t n < gainI F G t n) : mostTo F G t (n + 1) = mostTo F G t n ∧ firstTo F G t (n + 1) = firstTo F G t n := by
  refine ⟨?_, if_neg h⟩
  show max _ _ = _; omega
/-- Once it is infinite, it stays so. -/
theorem most_stop {F G : Nat → Int} {t n : Nat} (h : mostTo F G t n = infV) : ∀ k, (∀ u, u < n + k → gainI F G t u ≤ infV) → mostTo F G t (n + k) = infV ∧ firstTo F G t (n + k) = firstTo F G t n
  | 0, _ => ⟨h, rfl⟩
  | k + 1, hb => by
    obtain ⟨h1, h2⟩ := most_stop h k fun u hu => hb u (by omega)
    have h3 := hb (n + k) (by omega)
    obtain ⟨h4, h5⟩ := most_no (F := F) (G := G) (t := t) (n := n + k) (by omega)
    exact ⟨h4.trans h1, h5.trans h2⟩
theorem first_spec (F G : Nat → Int) (t : Nat) : ∀ n, (mostTo F G t n = 0 ∧ firstTo F G t n = 0 ∧ ∀ u, u < n → gainI F G t u ≤ 0) ∨ (firstTo F G t n < n ∧ gainI F G t (firstTo F G t n) = mostTo F G t n ∧ ∀ u, u < firstTo F G t n → gainI F G t u < mostTo F G t n)
  | 0 => .inl ⟨rfl, rfl, fun u hu => absurd hu (Nat.not_lt_zero _)⟩
  | n + 1 => by
    by_cases h : mostTo F G t n < gainI F G t n
    · obtain ⟨h1, h2⟩ := most_yes h
      rw [h1, h2]
      exact .inr ⟨by omega, rfl, fun u hu => by have := mostTo_le (F := F) (G := G) (t := t) hu; omega⟩
    · obtain ⟨h1, h2⟩ := most_no h
      rw [h1, h2]
      rcases first_spec F G t n with ⟨a, b, c⟩ | ⟨a, b, c⟩
      · refine .inl ⟨a, b, fun u hu => ?_⟩
        by_cases e : u = n
        · subst e; omega
        · exact c u (by omega)
      · exact .inr ⟨by omega, b, c⟩
theorem first_at {F G : Nat → Int} {t n : Nat} (hn : 1 ≤ n) (h0 : 0 ≤ F t) (hG : G 0 = 0) : firstTo F G t n < n ∧ gainI F G t (firstTo F G t n) = mostTo F G t n ∧ ∀ u, u < firstTo F G t n → gainI F G t u < mostTo F G t n := by
  rcases first_spec F G t n with ⟨a, b, c⟩ | h
  · have h1 := c 0 (by omega)
    have h2 : 0 ≤ gainI F G t 0 := by
      unfold gainI; rw [Nat.add_zero, hG]
      split
      · unfold infV; omega
      · omega
    rw [b]
    exact ⟨by omega, by omega, fun u hu => absurd hu (Nat.not_lt_zero _)⟩
  · exact h

section
variable {zs ys hs : List Int} {p q r : Nat} {inc jnc knc : Int}

noncomputable def eDec (zs : List Int) (p : Nat) (inc : Int) (ys : List Int) (q : Nat) (jnc : Int) : Nat → Option Int := oDec (eC zs p inc) (eC ys q jnc)

/-- Without bound: the first one grows faster. -/
def Steep (zs : List Int) (p : Nat) (inc : Int) (ys : List Int) (q : Nat) (jnc : Int) (L : Nat) : Prop := ¬ InfC zs ∧ ¬ InfC ys ∧ growI ys q jnc L < growI zs p inc L

/-- The reach. -/
noncomputable def reach (zs : List Int) (p : Nat) (ys : List Int) (q : Nat) (L : Nat) : Nat :=
  open Classical in if InfC ys then ys.length - 1 else max (zs.length - p) (ys.length - q) + L

theorem reach_inf {L : Nat} (h : InfC ys) : reach zs p ys q L = ys.length - 1 := by unfold reach; rw [if_pos h]
theorem reach_fin {L : Nat} (h : ¬ InfC ys) : reach zs p ys q L = max (zs.length - p) (ys.length - q) + L := by unfold reach; rw [if_neg h]

theorem eC_mono1 (g : Good zs p inc) (t : Nat) : ole (eC zs p inc t) (eC zs p inc (t + 1)) := fun y hy => by
  cases h : eC zs p inc t with
  | none => rw [eC_up g h] at hy; cases hy
  | some x => exact ⟨x, rfl, eC_mono g h hy⟩
theorem eC_zero0 (g : Good ys q jnc) (h : atC ys q jnc 0 = 0) : eC ys q jnc 0 = some 0 := by
  unfold eC; rw [h, if_neg]; rintro ⟨_, e⟩; unfold infV at e; omega

/-- Below the reach the second curve is finite, at and behind it it is not, in a normal form. -/
theorem norm_inf (g : Good ys q jnc) (hi : InfC ys) (hn : ∃ s, ys.length = s + q ∧ NormOf (atC ys q jnc) s q jnc) (u : Nat) : (u < ys.length - 1 → ∃ y, eC ys q jnc u = some y) ∧ (ys.length - 1 ≤ u → eC ys q jnc u = none) := by
  refine ⟨fun hu => ?_, fun hu => eC_late g hi hu⟩
  cases h : eC ys q jnc u with
  | some y => exact ⟨y, rfl⟩
  | none =>
    exfalso
    obtain ⟨s, hs, hn⟩ := hn
    obtain ⟨rfl, rfl⟩ := g.tailI hi
    have hall : ∀ k, atC ys 1 0 (u + k) = infV := fun k => (eC_none.1 (stays (fun t ht => eC_up g ht) h k)).2
    have hp : Per (atC ys 1 0) u 1 0 := fun t ht => by
      rw [show t = u + (t - u) by omega, hall, show u + (t - u) + 1 = u + (t - u + 1) by omega, hall]; omega
    have := hn.start_le hp (by omega)
    omega

theorem not_steep {L : Nat} (hs : ¬ Steep zs p inc ys q jnc L) (f1 : ¬ InfC zs) (f2 : ¬ InfC ys) : growI zs p inc L ≤ growI ys q jnc L := Int.not_lt.1 fun h => hs ⟨f1, f2, h⟩

/-- One curve grows faster: there is no bound. -/
theorem dec_steep (g : Good zs p inc) (k : Good ys q jnc) (h0 : atC ys q jnc 0 = 0) {L : Nat} (hL : Mult p q L) (h : Steep zs p inc ys q jnc L) (t : Nat) : eDec zs p inc ys q jnc t = none := by
  obtain ⟨f1, f2, hlt⟩ := h
  have h00 := eC_zero0 k h0
  cases hd : eDec zs p inc ys q jnc t with
  | none => rfl
  | some x =>
    exfalso
    have hub := (dec_is (a := eC zs p inc) h00 t).1
    rw [show oDec (eC zs p inc) (eC ys q jnc) t = some x from hd] at hub
    rw [growI_mul f1, growI_mul f2] at hlt
    have P1 := g.perM f1 hL.dp (Nat.le_refl _)
    have P2 := k.perM f2 hL.dq (Nat.le_refl _)
    generalize inc * ((L / p : Nat) : Int) = ra at hlt P1
    generalize jnc * ((L / q : Nat) : Int) = rb at hlt P2
    obtain ⟨S, hS1, hS2⟩ : ∃ S, zs.length - p ≤ t + S ∧ ys.length - q ≤ S := ⟨zs.length + ys.length, by omega, by omega⟩
    have e1 := fun n => P1.mul n (t + S) hS1
    have e2 := fun n => P2.mul n S hS2
    have k1 := fun n : Nat => hub (S + n * L) _ (eC_fin f2 q jnc _)
    have k2 : ∀ n : Nat, atC zs p inc (t + S) + (n : Int) * ra ≤ x + (atC ys q jnc S + (n : Int) * rb) := fun n => by
      obtain ⟨z, hz, hzl⟩ := k1 n _ rfl
      rw [eC_fin f1] at hz; cases hz
      rw [show t + (S + n * L) = t + S + n * L by omega, e1, e2] at hzl
      exact hzl
    have k3 := k2 ((x + atC ys q jnc S - atC zs p inc (t + S)).toNat + 1)
    generalize hm : x + atC ys q jnc S - atC zs p inc (t + S) = m at k3
    have k4 : (((m.toNat + 1 : Nat) : Int)) * (ra - rb) ≤ m := by rw [Int.mul_sub]; omega
    have k5 : (((m.toNat + 1 : Nat) : Int)) * 1 ≤ ((m.toNat + 1 : Nat) : Int) * (ra - rb) := Int.mul_le_mul_of_nonneg_left (by omega) (by omega)
    omega

/-- The first curve is finite and not faster: the bound is attained below the reach. -/
theorem dec_fin (g : Good zs p inc) (k : Good ys q jnc) (h0 : atC ys q jnc 0 = 0) (hn : ∃ s, ys.length = s + q ∧ NormOf (atC ys q jnc) s q jnc) {L : Nat} (hL : Mult p q L) (h : ¬ Steep zs p inc ys q jnc L) (f1 : ¬ InfC zs) (t : Nat) :
    ∃ v, eDec zs p inc ys q jnc t = some v ∧ (∃ u, u < reach zs p ys q L ∧ atC zs p inc (t + u) - atC ys q jnc u = v) ∧ (∀ u, u < reach zs p ys q L → atC zs p inc (t + u) - atC ys q jnc u ≤ v) := by
  have h00 := eC_zero0 k h0
  have hL1 := hL.one
  -- the greatest difference of the first n
  have ex : ∀ n, 1 ≤ n → ∃ v, (∃ u, u < n ∧ atC zs p inc (t + u) - atC ys q jnc u = v) ∧ ∀ u, u < n → atC zs p inc (t + u) - atC ys q jnc u ≤ v := fun n hn => by
    induction n with
    | zero => omega
    | succ n ih =>
      by_cases h1 : 1 ≤ n
      · obtain ⟨v, ⟨u, hu, e⟩, hv⟩ := ih h1
        by_cases hx : v < atC zs p inc (t + n) - atC ys q jnc n
        · refine ⟨_, ⟨n, by omega, rfl⟩, fun u hu => ?_⟩
          by_cases e : u = n
          · subst e; omega
          · have := hv u (by omega); omega
        · refine ⟨v, ⟨u, by omega, e⟩, fun u hu => ?_⟩
          by_cases e : u = n
          · subst e; omega
          · exact hv u (by omega)
      · exact ⟨_, ⟨0, by omega, rfl⟩, fun u hu => by rw [show u = 0 by omega]; omega⟩
  have hR : 1 ≤ reach zs p ys q L := by
    by_cases f2 : InfC ys
    · rw [reach_inf f2]
      rcases Nat.lt_or_ge 1 ys.length with h1 | h1
      · omega
      · exfalso
        have e : ys.length - 1 = 0 := by omega
        have f3 := f2
        unfold InfC at f3
        rw [e] at f3
        have := k.p1; have := k.p3
        rw [atC_lt (by omega), f3] at h0
        unfold infV at h0; omega
    · rw [reach_fin f2]; omega
  obtain ⟨v, ⟨u, hu, e⟩, hv⟩ := ex _ hR
  have hy : ∀ u, u < reach zs p ys q L → eC ys q jnc u = some (atC ys q jnc u) := fun u hu => by
    by_cases f2 : InfC ys
    · rw [reach_inf f2] at hu
      obtain ⟨y, hy⟩ := (norm_inf k f2 hn u).1 hu
      rw [hy, (eC_bd k hy).2.2]
    · exact eC_fin f2 q jnc u
  refine ⟨v, dec_eq h00 ⟨fun u' y hy' => ?_, fun v' hv' => ?_⟩, ⟨u, hu, e⟩, hv⟩
  · have key : ∀ n u', u' ≤ n → ∀ y, eC ys q jnc u' = some y → atC zs p inc (t + u') - y ≤ v := by
      intro n
      induction n with
      | zero =>
        intro u' hu' y hy'
        have := hy u' (by omega); rw [hy'] at this; cases this
        exact hv u' (by omega)
      | succ n ih =>
        intro u' hu' y hy'
        by_cases hr : u' < reach zs p ys q L
        · have := hy u' hr; rw [hy'] at this; cases this
          exact hv u' hr
        · by_cases f2 : InfC ys
          · rw [reach_inf f2] at hr
            rw [(norm_inf k f2 hn u').2 (by omega)] at hy'; cases hy'
          · rw [reach_fin f2] at hr
            have hle := not_steep h f1 f2
            rw [growI_mul f1, growI_mul f2] at hle
            have P1 := g.perM f1 hL.dp (Nat.le_refl _) (t + (u' - L)) (by omega)
            have P2 := k.perM f2 hL.dq (Nat.le_refl _) (u' - L) (by omega)
            rw [show t + (u' - L) + L = t + u' by omega] at P1
            rw [show u' - L + L = u' by omega] at P2
            rw [eC_fin f2] at hy'; cases hy'
            have := ih (u' - L) (by omega) _ (eC_fin f2 q jnc _)
            omega
    rw [eC_fin f1]
    exact ole_some (by have := key u' u' (Nat.le_refl _) y hy'; omega)
  · cases v' with
    | none => exact ole_none _
    | some x =>
      have := hv' u _ (hy u hu)
      rw [eC_fin f1] at this
      obtain ⟨z, hz, hzl⟩ := this _ rfl
      cases hz
      exact ole_some (by omega)

/-- What all of this stage's values keep to. -/
structure Dec (zs : List Int) (p : Nat) (inc : Int) (ys : List Int) (q : Nat) (jnc : Int) (L : Nat) : Prop where
  g : Good zs p inc
  k : Good ys q jnc
  h0 : atC ys q jnc 0 = 0
  ng : ∃ s, zs.length = s + p ∧ NormOf (atC zs p inc) s p inc
  nk : ∃ s, ys.length = s + q ∧ NormOf (atC ys q jnc) s q jnc
  m : Mult p q L
  l : L ≤ 120

variable {L : Nat}
theorem Dec.reach1 (d : Dec zs p inc ys q jnc L) : 1 ≤ reach zs p ys q L := by
  have := d.m.one
  by_cases f2 : InfC ys
  · rw [reach_inf f2]
    rcases Nat.lt_or_ge 1 ys.length with h1 | h1
    · omega
    · exfalso
      have h0 := d.h0
      have e : ys.length - 1 = 0 := by omega
      have f3 := f2
      unfold InfC at f3
      rw [e] at f3
      have := d.k.p1; have := d.k.p3
      rw [atC_lt (by omega), f3] at h0
      unfold infV at h0; omega
  · rw [reach_fin f2]; omega
theorem Dec.reach_le (d : Dec zs p inc ys q jnc L) : reach zs p ys q L ≤ 519 := by
  have := d.l; have := d.g.few; have := d.g.p1; have := d.k.few; have := d.k.p1; have := d.g.p3; have := d.k.p3
  by_cases f2 : InfC ys
  · rw [reach_inf f2]; omega
  · rw [reach_fin f2]; omega
theorem Dec.second (d : Dec zs p inc ys q jnc L) {u : Nat} (hu : u < reach zs p ys q L) : eC ys q jnc u = some (atC ys q jnc u) := by
  by_cases f2 : InfC ys
  · rw [reach_inf f2] at hu
    obtain ⟨y, hy⟩ := (norm_inf d.k f2 d.nk u).1 hu
    rw [hy, (eC_bd d.k hy).2.2]
  · exact eC_fin f2 q jnc u
theorem Dec.second_bd (d : Dec zs p inc ys q jnc L) {u : Nat} (hu : u < reach zs p ys q L) : 0 ≤ atC ys q jnc u ∧ atC ys q jnc u ≤ 1073741824 * ((u : Int) + 1) := by
  have := eC_bd d.k (d.second hu); omega

/-- A gain is infinite or small. -/
theorem Dec.gain_bd (d : Dec zs p inc ys q jnc L) {t u : Nat} (ht : t ≤ 100000) (hu : u < reach zs p ys q L) : gainI (atC zs p inc) (atC ys q jnc) t u = infV ∨ (-1125899906842624 ≤ gainI (atC zs p inc) (atC ys q jnc) t u ∧ gainI (atC zs p inc) (atC ys q jnc) t u ≤ 1073741824 * ((t : Int) + 520)) := by
  unfold gainI
  have := d.second_bd hu
  have := d.reach_le
  rcases eC_cases d.g (t := t + u) (by omega) with ⟨_, e⟩ | ⟨x, _, e, h1, h2⟩
  · exact .inl (by rw [if_pos e])
  · rw [e]
    by_cases hx : x = infV
    · unfold infV at hx; omega
    · rw [if_neg hx]; right; omega
theorem Dec.first0 (d : Dec zs p inc ys q jnc L) (t : Nat) : 0 ≤ atC zs p inc t := by
  by_cases f1 : InfC zs
  · rcases eC_inf d.g f1 t with h | ⟨x, _, h, h1, _⟩
    · rw [(eC_none.1 h).2]; unfold infV; omega
    · omega
  · exact (d.g.bd f1 t).1
theorem Dec.most_at (d : Dec zs p inc ys q jnc L) (t : Nat) : ∃ u, u < reach zs p ys q L ∧ gainI (atC zs p inc) (atC ys q jnc) t u = mostTo (atC zs p inc) (atC ys q jnc) t (reach zs p ys q L) :=
  mostTo_at d.reach1 (d.first0 t) d.h0
theorem Dec.most_mid (d : Dec zs p inc ys q jnc L) {t n : Nat} (ht : t ≤ 100000) (hn : n ≤ reach zs p ys q L) : mostTo (atC zs p inc) (atC ys q jnc) t n = infV ∨ (0 ≤ mostTo (atC zs p inc) (atC ys q jnc) t n ∧ mostTo (atC zs p inc) (atC ys q jnc) t n ≤ 1073741824 * ((t : Int) + 520)) := by
  have h0 := mostTo_nn (atC zs p inc) (atC ys q jnc) t n
  rcases mostTo_found (atC zs p inc) (atC ys q jnc) t n with h | ⟨u, hu, e⟩
  · rw [h]; right; omega
  · have := d.gain_bd ht (show u < reach zs p ys q L by omega)
    rw [e] at this; omega

/-- The values that the program computes are those of the deconvolution. -/
theorem Dec.val (d : Dec zs p inc ys q jnc L) (hs : ¬ Steep zs p inc ys q jnc L) {t : Nat} (ht : t ≤ 100000) :
    encF (eDec zs p inc ys q jnc) t = mostTo (atC zs p inc) (atC ys q jnc) t (reach zs p ys q L) ∧ (∀ x, eDec zs p inc ys q jnc t = some x → ∃ u, u < reach zs p ys q L ∧ atC zs p inc (t + u) - atC ys q jnc u = x ∧ ¬ atC zs p inc (t + u) = infV) ∧
      (eDec zs p inc ys q jnc t = none → mostTo (atC zs p inc) (atC ys q jnc) t (reach zs p ys q L) = infV) := by
  have h00 := eC_zero0 d.k d.h0
  have hr := d.reach_le
  have hle : ∀ u, u < reach zs p ys q L → gainI (atC zs p inc) (atC ys q jnc) t u ≤ infV := fun u hu => by
    rcases d.gain_bd ht hu with h | h
    · omega
    · unfold infV; omega
  by_cases hx : ∃ u, u < reach zs p ys q L ∧ eC zs p inc (t + u) = none
  · obtain ⟨u, hu, hnone⟩ := hx
    have e1 : eDec zs p inc ys q jnc t = none := dec_eq h00 ⟨fun u y _ => by rw [oadd_none_l]; exact ole_none _, fun v' hv' => by
      cases v' with
      | none => exact ole_none _
      | some x =>
        obtain ⟨z, hz, _⟩ := hv' u _ (d.second hu) _ rfl
        rw [hnone] at hz; cases hz⟩
    have e2 := mostTo_inf hu ((eC_none.1 hnone).2) hle
    exact ⟨by rw [encF_none e1, e2], fun x h => (by rw [e1] at h; cases h), fun _ => e2⟩
  · have hsome : ∀ u, u < reach zs p ys q L → ∃ x, eC zs p inc (t + u) = some x := fun u hu => by
      cases h : eC zs p inc (t + u) with
      | none => exact absurd ⟨u, hu, h⟩ hx
      | some x => exact ⟨x, rfl⟩
    have hne : ∀ u, u < reach zs p ys q L → ¬ atC zs p inc (t + u) = infV := fun u hu => by
      obtain ⟨x, hx⟩ := hsome u hu
      have := eC_bd d.g hx
      unfold infV; omega
    have hg : ∀ u, u < reach zs p ys q L → gainI (atC zs p inc) (atC ys q jnc) t u = atC zs p inc (t + u) - atC ys q jnc u := fun u hu => by unfold gainI; rw [if_neg (hne u hu)]
    obtain ⟨v, e1, ⟨u, hu, e⟩, hv⟩ : ∃ v, eDec zs p inc ys q jnc t = some v ∧ (∃ u, u < reach zs p ys q L ∧ atC zs p inc (t + u) - atC ys q jnc u = v) ∧ (∀ u, u < reach zs p ys q L → atC zs p inc (t + u) - atC ys q jnc u ≤ v) := by
      by_cases f1 : InfC zs
      · have f2 : InfC ys := Classical.byContradiction fun f2 => by
          have h1 := (d.g.tailI f1).1
          obtain ⟨x, hx⟩ := hsome (zs.length - 1) (by rw [reach_fin f2]; have := d.m.one; omega)
          rw [eC_late d.g f1 (by omega)] at hx; cases hx
        obtain ⟨u, hu, e⟩ := d.most_at t
        refine ⟨mostTo (atC zs p inc) (atC ys q jnc) t (reach zs p ys q L), dec_eq h00 ⟨fun u' y hy' => ?_, fun v' hv' => ?_⟩, ⟨u, hu, by rw [← hg u hu]; exact e⟩, fun u' hu' => by rw [← hg u' hu']; exact mostTo_le hu'⟩
        · have hu' : u' < reach zs p ys q L := Nat.lt_of_not_le fun hl => by
            rw [reach_inf f2] at hl
            rw [eC_late d.k f2 hl] at hy'; cases hy'
          obtain ⟨x, hx⟩ := hsome u' hu'
          rw [hx]
          have h1 := mostTo_le (F := atC zs p inc) (G := atC ys q jnc) (t := t) hu'
          have h2 := (eC_bd d.g hx).2.2
          have h3 := (eC_bd d.k hy').2.2
          rw [hg u' hu'] at h1
          exact ole_some (by omega)
        · cases v' with
          | none => exact ole_none _
          | some x =>
            obtain ⟨z, hz, hzl⟩ := hv' u _ (d.second hu) _ rfl
            have := (eC_bd d.g hz).2.2
            rw [hg u hu] at e
            exact ole_some (by omega)
      · exact dec_fin d.g d.k d.h0 d.nk d.m hs f1 t
    have e2 : mostTo (atC zs p inc) (atC ys q jnc) t (reach zs p ys q L) = v := mostTo_eq d.reach1 (d.first0 t) d.h0 ⟨u, hu, by rw [hg u hu]; exact e⟩ (fun u' hu' => by rw [hg u' hu']; exact hv u' hu')
    exact ⟨by rw [encF_some e1, e2], fun x h => (by rw [e1] at h; cases h; exact ⟨u, hu, e, hne u hu⟩), fun h => (by rw [e1] at h; cases h)⟩

theorem dec_up (g : Good zs p inc) (k : Good ys q jnc) (h0 : atC ys q jnc 0 = 0) (t : Nat) (h : eDec zs p inc ys q jnc t = none) : eDec zs p inc ys q jnc (t + 1) = none := by
  cases h2 : eDec zs p inc ys q jnc (t + 1) with
  | none => rfl
  | some y =>
    obtain ⟨x, hx, _⟩ := dec_upward (eC_zero0 k h0) (eC_mono1 g) t y h2
    rw [show oDec (eC zs p inc) (eC ys q jnc) t = none from h] at hx; cases hx

/-- Where the first curve grows by c in P ticks from s on, so do the bounds. -/
theorem Dec.shift (d : Dec zs p inc ys q jnc L) (hs : ¬ Steep zs p inc ys q jnc L) (f1 : ¬ InfC zs) {s P : Nat} {c : Int} (h : Per (atC zs p inc) s P c) : Per (encF (eDec zs p inc ys q jnc)) s P c := fun t ht => by
  obtain ⟨v, e1, ⟨u, hu, e2⟩, h1⟩ := dec_fin d.g d.k d.h0 d.nk d.m hs f1 t
  obtain ⟨v', e1', ⟨u', hu', e2'⟩, h1'⟩ := dec_fin d.g d.k d.h0 d.nk d.m hs f1 (t + P)
  rw [encF_some e1, encF_some e1']
  have k1 := h (t + u) (by omega)
  have k2 := h (t + u') (by omega)
  have k3 := h1' u hu
  have k4 := h1 u' hu'
  rw [show t + P + u = t + u + P by omega] at k3
  rw [show t + P + u' = t + u' + P by omega] at e2'
  omega

theorem Dec.none_late (d : Dec zs p inc ys q jnc L) (f1 : InfC zs) {t : Nat} (ht : zs.length - p ≤ t) : eDec zs p inc ys q jnc t = none := by
  have h1 := (d.g.tailI f1).1
  cases h : eDec zs p inc ys q jnc t with
  | none => rfl
  | some y =>
    obtain ⟨x, hx, _⟩ := dec_self (a := eC zs p inc) (eC_zero0 d.k d.h0) t y h
    rw [eC_late d.g f1 (by omega)] at hx; cases hx

theorem Dec.from (d : Dec zs p inc ys q jnc L) (hs : ¬ Steep zs p inc ys q jnc L) : FromOk (eDec zs p inc ys q jnc) (zs.length - p) p := by
  have hn := d.g.few; have h1 := d.g.p1; have h2 := d.g.p2; have h3 := d.g.p3
  refine ⟨fun t ht => ?_, ?_, tame_mid (dec_up d.g d.k d.h0) fun t x ht hx => ?_⟩
  · rw [(d.val hs (by omega)).1]
    rcases d.most_mid (t := t) (by omega) (Nat.le_refl _) with h | h
    · rw [h]; unfold infV; omega
    · unfold infV; omega
  · by_cases f1 : InfC zs
    · exact ⟨0, fun t ht => by rw [encF_none (d.none_late f1 ht), encF_none (d.none_late f1 (by omega))]; omega⟩
    · exact ⟨inc, d.shift hs f1 (d.g.per f1)⟩
  · obtain ⟨u, hu, e, hne⟩ := (d.val hs (show t ≤ 100000 by omega)).2.1 x hx
    have := d.gain_bd (t := t) (by omega) hu
    unfold gainI at this
    rw [if_neg hne, e] at this
    unfold infV at this
    rcases this with h | h
    · exfalso
      have := d.second_bd hu; have := d.reach_le
      rcases eC_cases d.g (t := t + u) (by omega) with ⟨_, e5⟩ | ⟨x5, _, e5, h5, h6⟩
      · exact hne e5
      · omega
    · omega

end
end Go.Proofs.YtkienpbmoilheaaGreat
