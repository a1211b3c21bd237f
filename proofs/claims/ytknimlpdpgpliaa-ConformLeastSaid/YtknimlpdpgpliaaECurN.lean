/- The mathematics of curves that list more values, or a longer period. By the verifier's side. -/
import Derived.Test.YtknimlpdpgpliaaECurM
namespace Go.Proofs.Ytknimlpdpgpliaa

/-- The list of a function's first values. -/
def firsts (f : Nat → Int) (m : Nat) : List Int := (List.range m).map f
theorem firsts_length (f : Nat → Int) (m : Nat) : (firsts f m).length = m := by simp [firsts]
theorem firsts_getD (f : Nat → Int) (m i : Nat) (h : i < m) : (firsts f m).getD i 0 = f i := by simp [firsts, List.getD, h]
theorem firsts_succ (f : Nat → Int) (m : Nat) : firsts f (m + 1) = firsts f m ++ [f m] := by simp [firsts, List.range_succ]
theorem firsts_atC (zs : List Int) (p : Nat) (inc : Int) : firsts (atC zs p inc) zs.length = zs :=
  list_ext_getD (firsts_length _ _) fun i hi => by rw [firsts_length] at hi; rw [firsts_getD _ _ _ hi, atC_lt hi]

theorem Good.grow {zs : List Int} {p : Nat} {inc : Int} (g : Good zs p inc) (hf : ¬ zs.getD (zs.length - 1) 0 = infV) {t : Nat} (ht : zs.length - p ≤ t) (k : Nat) : atC zs p inc (t + k) ≤ atC zs p inc t + (k : Int) * inc := by
  induction k with
  | zero => simp
  | succ k ih =>
    have h1 := g.per hf (t + k) (by omega)
    have h2 := g.up (p - 1) (t + k + 1)
    have hp := g.p1
    rw [show t + k + 1 + (p - 1) = t + k + p by omega] at h2
    rw [show t + (k + 1) = t + k + 1 by omega, Int.natCast_succ, Int.add_mul]
    omega

theorem long_good {zs : List Int} {p : Nat} {inc : Int} (g : Good zs p inc) (hf : ¬ zs.getD (zs.length - 1) 0 = infV) {more times m : Nat} (hm : m = zs.length + more + (times - 1) * p) (ht : 1 ≤ times) (h1 : m ≤ 400) (h2 : p * times ≤ 120) (h3 : inc * (times : Int) ≤ 1073741824)
    (h4 : atC zs p inc (m - 1) ≤ 1073741824) :
    Good (firsts (atC zs p inc) m) (p * times) (inc * (times : Int)) ∧ (¬ (firsts (atC zs p inc) m).getD ((firsts (atC zs p inc) m).length - 1) 0 = infV) ∧ ∀ t, atC (firsts (atC zs p inc) m) (p * times) (inc * (times : Int)) t = atC zs p inc t := by
  have hp := g.p1
  have hp3 := g.p3
  have hi0 := g.i0
  obtain ⟨k, rfl⟩ : ∃ k, times = k + 1 := ⟨times - 1, by omega⟩
  rw [Nat.add_sub_cancel] at hm
  have hpt : p * (k + 1) = k * p + p := by rw [Nat.mul_succ, Nat.mul_comm]
  have hpm : p * (k + 1) ≤ m := by omega
  have hpp : 1 ≤ p * (k + 1) := by omega
  have hle : ∀ i, i < m → 0 ≤ atC zs p inc i ∧ atC zs p inc i ≤ 1073741824 := fun i hi => by
    have h5 := g.up (m - 1 - i) i
    rw [show i + (m - 1 - i) = m - 1 by omega] at h5
    have := (g.bd hf i).1
    omega
  have hlen := firsts_length (atC zs p inc) m
  have hlast : ¬ (firsts (atC zs p inc) m).getD ((firsts (atC zs p inc) m).length - 1) 0 = infV := by
    rw [hlen, firsts_getD _ _ _ (by omega)]
    have := hle (m - 1) (by omega)
    unfold infV; omega
  have hper : Per (atC zs p inc) (m - p * (k + 1)) (p * (k + 1)) (inc * ((k + 1 : Nat) : Int)) := by
    have h6 := (g.per hf).mul (k + 1)
    rw [Nat.mul_comm (k + 1) p, Int.mul_comm] at h6
    exact h6.mono (by omega)
  have hg : Good (firsts (atC zs p inc) m) (p * (k + 1)) (inc * ((k + 1 : Nat) : Int)) := by
    refine ⟨by omega, hpp, h2, by omega, Int.mul_nonneg hi0 (by omega), h3, fun i hi => ?_, fun i hi => ?_, fun hx => absurd hx hlast, fun _ => ?_⟩
    · rw [hlen] at hi; rw [firsts_getD _ _ _ hi]; exact .inl (hle i hi)
    · rw [hlen] at hi; rw [firsts_getD _ _ _ (by omega), firsts_getD _ _ _ hi]; exact g.step i
    · rw [hlen, firsts_getD _ _ _ (by omega), firsts_getD _ _ _ (by omega)]
      have h7 := hper (m - p * (k + 1)) (Nat.le_refl _)
      have h8 := g.up 1 (m - 1)
      rw [show m - 1 + 1 = m by omega] at h8
      rw [show m - p * (k + 1) + p * (k + 1) = m by omega] at h7
      omega
  refine ⟨hg, hlast, ?_⟩
  have hq := hg.per hlast
  rw [hlen] at hq
  refine hq.ext hper hpp fun t ht => ?_
  rw [atC_lt (by omega), firsts_getD _ _ _ (by omega)]

/-- What the values that are drawn keep to while a curve is made. -/
def SeqOk0 (zs : List Int) (v : Int) : Prop :=
  (∀ i, i < zs.length → 0 ≤ zs.getD i 0 ∧ zs.getD i 0 ≤ v) ∧ (∀ i, i + 1 < zs.length → zs.getD i 0 ≤ zs.getD (i + 1) 0) ∧ 0 ≤ v ∧ v ≤ 3 + 9 * (zs.length : Int)

/-- They grow by at most 9 a tick. -/
def SeqStep (zs : List Int) (v : Int) : Prop :=
  (∀ i, i + 1 < zs.length → zs.getD (i + 1) 0 ≤ zs.getD i 0 + 9) ∧ (∀ i, i < zs.length → zs.getD i 0 ≤ 3 + 9 * (i : Int)) ∧ (∀ i, i + 1 = zs.length → v ≤ zs.getD i 0 + 9)
def SeqOk (zs : List Int) (v : Int) : Prop := SeqOk0 zs v ∧ SeqStep zs v

theorem SeqOk.nil {v : Int} (h0 : 0 ≤ v) (h3 : v ≤ 3) : SeqOk [] v := ⟨⟨fun i hi => absurd hi (Nat.not_lt_zero _), fun i hi => absurd hi (Nat.not_lt_zero _), h0, by simp; exact h3⟩, fun i hi => absurd hi (Nat.not_lt_zero _), fun i hi => absurd hi (Nat.not_lt_zero _), fun i hi => by simp at hi⟩

theorem getD_append_lt {zs : List Int} {v : Int} {i : Nat} (h : i < zs.length) : (zs ++ [v]).getD i 0 = zs.getD i 0 := by
  simp [List.getD, List.getElem?_append_left h]
theorem getD_append_eq {zs : List Int} {v : Int} : (zs ++ [v]).getD zs.length 0 = v := by simp [List.getD]

theorem SeqOk.snoc {zs : List Int} {v d : Int} (h : SeqOk zs v) (h0 : 0 ≤ d) (h9 : d ≤ 9) : SeqOk (zs ++ [v]) (v + d) := by
  obtain ⟨⟨h1, h2, h3, h4⟩, s1, s2, s3⟩ := h
  have hl : (zs ++ [v]).length = zs.length + 1 := by simp
  refine ⟨⟨fun i hi => ?_, fun i hi => ?_, by omega, by rw [hl]; omega⟩, fun i hi => ?_, fun i hi => ?_, fun i hi => ?_⟩
  · rw [hl] at hi
    by_cases he : i = zs.length
    · subst he; rw [getD_append_eq]; omega
    · rw [getD_append_lt (by omega)]; have := h1 i (by omega); omega
  · rw [hl] at hi
    by_cases he : i + 1 = zs.length
    · rw [he, getD_append_eq, getD_append_lt (by omega)]; exact (h1 i (by omega)).2
    · rw [getD_append_lt (by omega), getD_append_lt (by omega)]; exact h2 i (by omega)
  · rw [hl] at hi
    by_cases he : i + 1 = zs.length
    · rw [he, getD_append_eq, getD_append_lt (by omega)]; exact s3 i he
    · rw [getD_append_lt (by omega), getD_append_lt (by omega)]; exact s1 i (by omega)
  · rw [hl] at hi
    by_cases he : i = zs.length
    · subst he; rw [getD_append_eq]; exact h4
    · rw [getD_append_lt (by omega)]; exact s2 i (by omega)
  · rw [hl] at hi
    obtain rfl : i = zs.length := by omega
    rw [getD_append_eq]; omega

/-- A curve that was drawn: valid and small. -/
structure OkCur (most : Nat) (zs : List Int) (p : Nat) (inc : Int) : Prop where
  good : Good zs p inc
  few : zs.length ≤ most + 7
  p8 : p ≤ 8
  slow : ¬ zs.getD (zs.length - 1) 0 = infV → ∀ t, atC zs p inc t ≤ 3 + 9 * (t : Int)
  twelve : ¬ zs.getD (zs.length - 1) 0 = infV → ∃ c, Per (atC zs p inc) (most - 1) 12 c
  inc : inc ≤ 1000
  val : ∀ i, i < zs.length → zs.getD i 0 ≤ 10000 ∨ zs.getD i 0 = infV
  div : 24 % p = 0

theorem per12 {f : Nat → Int} {s p : Nat} {c : Int} (h : Per f s p c) (h1 : 1 ≤ p) (h4 : p ≤ 4) : ∃ c, Per f s 12 c := by
  have hp : p = 1 ∨ p = 2 ∨ p = 3 ∨ p = 4 := by omega
  rcases hp with rfl | rfl | rfl | rfl
  · exact ⟨_, h.mul 12⟩
  · exact ⟨_, h.mul 6⟩
  · exact ⟨_, h.mul 4⟩
  · exact ⟨_, h.mul 3⟩
theorem div24 {p : Nat} (h1 : 1 ≤ p) (h4 : p ≤ 4) {k : Nat} (k1 : 1 ≤ k) (k2 : k ≤ 2) : 24 % (p * k) = 0 := by
  have hp : p = 1 ∨ p = 2 ∨ p = 3 ∨ p = 4 := by omega
  have hk : k = 1 ∨ k = 2 := by omega
  rcases hp with rfl | rfl | rfl | rfl <;> rcases hk with rfl | rfl <;> rfl

theorem step_le {zs : List Int} (h : ∀ i, i + 1 < zs.length → zs.getD (i + 1) 0 ≤ zs.getD i 0 + 9) : ∀ k i, i + k < zs.length → zs.getD (i + k) 0 ≤ zs.getD i 0 + 9 * (k : Int) := by
  intro k
  induction k with
  | zero => intro i _; simp
  | succ k ih =>
    intro i hi
    have h1 := ih i (by omega)
    have h2 := h (i + k) (by omega)
    rw [show i + (k + 1) = i + k + 1 by omega]
    omega
/-- A curve that grows by at most 9 a tick while it is listed, and by less than 9 a tick in its period. -/
theorem slow_of {zs : List Int} {p : Nat} {inc : Int} (g : Good zs p inc) (hf : ¬ zs.getD (zs.length - 1) 0 = infV) (h : ∀ i, i < zs.length → zs.getD i 0 ≤ 3 + 9 * (i : Int)) (hi : inc ≤ 9 * (p : Int)) : ∀ t, atC zs p inc t ≤ 3 + 9 * (t : Int) := by
  intro t
  induction t using Nat.strongRecOn with
  | ind t ih =>
    have hp := g.p3; have hp1 := g.p1
    by_cases hlt : t < zs.length
    · rw [atC_lt hlt]; exact h t hlt
    · have e := g.per hf (t - p) (by omega)
      have := ih (t - p) (by omega)
      rw [show t - p + p = t by omega] at e
      omega

theorem okCur_plain {most : Nat} (hm : most ≤ 9) {zs : List Int} {v : Int} (h : SeqOk zs v) {n : Nat} (hn : zs.length = n) (h1 : 1 ≤ n) (h2 : n ≤ most) {p : Nat} (hp1 : 1 ≤ p) (hp4 : p ≤ 4) (hpn : p ≤ n) {d : Int} (hd0 : 0 ≤ d) (hd8 : d ≤ 8) :
    OkCur most zs p (zs.getD (n - 1) 0 - zs.getD (n - p) 0 + d) ∧ (¬ zs.getD (zs.length - 1) 0 = infV) ∧ 0 ≤ zs.getD (n - 1) 0 - zs.getD (n - p) 0 + d ∧ zs.getD (n - 1) 0 - zs.getD (n - p) 0 + d ≤ 100 ∧ (∀ i, i < n → 0 ≤ zs.getD i 0 ∧ zs.getD i 0 ≤ 84) := by
  subst hn
  obtain ⟨⟨g1, g2, g3, g4⟩, s1, s2, s3⟩ := h
  have hb : ∀ i, i < zs.length → 0 ≤ zs.getD i 0 ∧ zs.getD i 0 ≤ 84 := fun i hi => by
    have := g1 i hi
    omega
  have a1 := hb (zs.length - 1) (by omega)
  have a2 := hb (zs.length - p) (by omega)
  have a3 := mono_le g2 (p - 1) (zs.length - p) (by omega)
  rw [show zs.length - p + (p - 1) = zs.length - 1 by omega] at a3
  have hlast : ¬ zs.getD (zs.length - 1) 0 = infV := by unfold infV; omega
  have hgood : Good zs p (zs.getD (zs.length - 1) 0 - zs.getD (zs.length - p) 0 + d) := ⟨by omega, hp1, by omega, by omega, by omega, by omega, fun i hi => by have := hb i hi; exact .inl ⟨this.1, by omega⟩, g2, fun hx => absurd hx hlast, fun _ => by omega⟩
  have hst := step_le s1 (p - 1) (zs.length - p) (by omega)
  rw [show zs.length - p + (p - 1) = zs.length - 1 by omega] at hst
  refine ⟨⟨hgood, by omega, by omega, fun hf => slow_of hgood hf s2 (by omega), fun hf => per12 ((hgood.per hf).mono (by omega)) hp1 hp4, by omega, fun i hi => ?_, by have := div24 hp1 hp4 (k := 1) (by omega) (by omega); rwa [Nat.mul_one] at this⟩, hlast, by omega, by omega, hb⟩
  · have := hb i hi; exact .inl (by omega)

theorem okCur_inf {most : Nat} (hm : most ≤ 9) {zs : List Int} {v : Int} (h : SeqOk zs v) (h2 : zs.length ≤ most) : OkCur most (zs ++ [infV]) 1 0 := by
  obtain ⟨⟨g1, g2, g3, g4⟩, s1, s2, s3⟩ := h
  have hl : (zs ++ [infV]).length = zs.length + 1 := by simp
  have hb : ∀ i, i < zs.length → 0 ≤ zs.getD i 0 ∧ zs.getD i 0 ≤ 84 := fun i hi => by
    have := g1 i hi
    omega
  refine ⟨⟨by omega, by omega, by omega, by omega, by omega, by omega, fun i hi => ?_, fun i hi => ?_, fun _ => ⟨rfl, rfl⟩, fun hx => ?_⟩, by omega, by omega, fun hf => absurd (by rw [hl, Nat.add_sub_cancel, getD_append_eq]) hf, fun hf => absurd (by rw [hl, Nat.add_sub_cancel, getD_append_eq]) hf, by omega, fun i hi => ?_, by decide⟩
  · rw [hl] at hi
    by_cases he : i = zs.length
    · subst he; rw [getD_append_eq]; exact .inr rfl
    · rw [getD_append_lt (by omega)]; have := hb i (by omega); exact .inl ⟨this.1, by omega⟩
  · rw [hl] at hi
    by_cases he : i + 1 = zs.length
    · rw [he, getD_append_eq, getD_append_lt (by omega)]; have := hb i (by omega); unfold infV; omega
    · rw [getD_append_lt (by omega), getD_append_lt (by omega)]; exact g2 i (by omega)
  · exact absurd (by rw [hl, Nat.add_sub_cancel, getD_append_eq]) hx
  · rw [hl] at hi
    by_cases he : i = zs.length
    · subst he; rw [getD_append_eq]; exact .inr rfl
    · rw [getD_append_lt (by omega)]; have := hb i (by omega); exact .inl (by omega)

theorem okCur_long {most : Nat} (hm : most ≤ 9) {zs : List Int} {p : Nat} {inc : Int} (o : OkCur most zs p inc) (hf : ¬ zs.getD (zs.length - 1) 0 = infV) (h2 : zs.length ≤ most) (hp : p ≤ 4) (hinc : inc ≤ 100) (hb : ∀ i, i < zs.length → 0 ≤ zs.getD i 0 ∧ zs.getD i 0 ≤ 84)
    {more times m : Nat} (hmore : more ≤ 3) (ht : 1 ≤ times) (ht2 : times ≤ 2) (hme : m = zs.length + more + (times - 1) * p) :
    OkCur most (firsts (atC zs p inc) m) (p * times) (inc * (times : Int)) := by
  have g := o.good
  have hp1 := g.p1
  have hp3 := g.p3
  have hi0 := g.i0
  have h12 : (times - 1) * p ≤ 4 := by
    have : times = 1 ∨ times = 2 := by omega
    rcases this with rfl | rfl <;> omega
  have hpt : p * times ≤ 8 := by
    have : times = 1 ∨ times = 2 := by omega
    rcases this with rfl | rfl <;> omega
  have hit : inc * (times : Int) ≤ 200 := by
    have : times = 1 ∨ times = 2 := by omega
    rcases this with rfl | rfl <;> omega
  have hmax : ∀ i, i < m → atC zs p inc i ≤ 1000 := fun i hi => by
    by_cases hlt : i < zs.length
    · rw [atC_lt hlt]; have := hb i hlt; omega
    · have h5 := g.grow hf (t := zs.length - 1) (by omega) (i - (zs.length - 1))
      rw [show zs.length - 1 + (i - (zs.length - 1)) = i by omega, atC_lt (show zs.length - 1 < zs.length by omega)] at h5
      have h6 := hb (zs.length - 1) (by omega)
      have h7 : ((i - (zs.length - 1) : Nat) : Int) * inc ≤ 7 * 100 := Int.mul_le_mul (by omega) hinc hi0 (by omega)
      omega
  obtain ⟨g1, g2, g3⟩ := long_good g hf hme ht (by omega) (by omega) (by omega) (by have := hmax (m - 1) (by omega); omega)
  refine ⟨g1, by rw [firsts_length]; omega, hpt, fun _ t => by rw [g3 t]; exact o.slow hf t, fun _ => by
    obtain ⟨c, h⟩ := o.twelve hf
    exact ⟨c, fun t ht => by rw [g3, g3]; exact h t ht⟩, by omega, fun i hi => ?_, div24 hp1 hp ht ht2⟩
  rw [firsts_length] at hi
  rw [firsts_getD _ _ _ hi]
  have := hmax i hi
  exact .inl (by omega)

end Go.Proofs.Ytknimlpdpgpliaa
