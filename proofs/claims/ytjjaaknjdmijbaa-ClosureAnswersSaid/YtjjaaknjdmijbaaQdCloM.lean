/- The mathematics of the sub-additive closure. By the verifier's side. -/
import Derived.Test.YtjjaaknjdmijbaaQdDecM
namespace Go.Proofs.Ytjjaaknjdmijbaa
set_option linter.unusedSimpArgs false

/-- The least of e and of the sums of the numbers at s and t - s, for the first k of the s from 1 on. -/
def partTo (h : Nat → Option Int) (e : Option Int) (t : Nat) : Nat → Option Int
  | 0 => e
  | k + 1 => omin (partTo h e t k) (oadd (h (k + 1)) (h (t - (k + 1))))
/-- The closure's values up to n. -/
def cloN (E : Nat → Option Int) : Nat → Nat → Option Int
  | 0, t => if t = 0 then some 0 else none
  | n + 1, t => if t = n + 1 then partTo (cloN E n) (E (n + 1)) (n + 1) n else cloN E n t
/-- The closure: 0 at the tick 0, else the least sum of all ways to write the tick as a sum. -/
def oclo (E : Nat → Option Int) (t : Nat) : Option Int := cloN E t t

theorem partTo_congr {h h' : Nat → Option Int} {e : Option Int} {t : Nat} : ∀ {k : Nat}, (∀ s, 1 ≤ s → s ≤ k → h s = h' s ∧ h (t - s) = h' (t - s)) → partTo h e t k = partTo h' e t k
  | 0, _ => rfl
  | k + 1, hs => by
    show omin _ _ = omin _ _
    rw [partTo_congr (k := k) fun s h1 h2 => hs s h1 (by omega), (hs (k + 1) (by omega) (Nat.le_refl _)).1, (hs (k + 1) (by omega) (Nat.le_refl _)).2]
theorem partTo_e {h : Nat → Option Int} {e : Option Int} {t : Nat} : ∀ k, ole (partTo h e t k) e
  | 0 => ole_refl _
  | k + 1 => ole_trans (ole_omin_l _ _) (partTo_e k)
theorem partTo_le {h : Nat → Option Int} {e : Option Int} {t s : Nat} : ∀ {k : Nat}, 1 ≤ s → s ≤ k → ole (partTo h e t k) (oadd (h s) (h (t - s)))
  | 0, h1, h2 => by omega
  | k + 1, h1, h2 => by
    by_cases he : s = k + 1
    · subst he; exact ole_omin_r _ _
    · exact ole_trans (ole_omin_l _ _) (partTo_le h1 (by omega))
theorem partTo_found {h : Nat → Option Int} {e : Option Int} {t : Nat} : ∀ k, partTo h e t k = e ∨ ∃ s, 1 ≤ s ∧ s ≤ k ∧ partTo h e t k = oadd (h s) (h (t - s))
  | 0 => .inl rfl
  | k + 1 => by
    rcases omin_cases (partTo h e t k) (oadd (h (k + 1)) (h (t - (k + 1)))) with q | q
    · rcases partTo_found (h := h) (e := e) (t := t) k with r | ⟨s, h1, h2, r⟩
      · exact .inl (by show omin _ _ = _; rw [q, r])
      · exact .inr ⟨s, h1, by omega, by show omin _ _ = _; rw [q, r]⟩
    · exact .inr ⟨k + 1, by omega, Nat.le_refl _, q⟩

section
variable {E E' C : Nat → Option Int}
theorem cloN_stable : ∀ {n t : Nat}, t ≤ n → cloN E n t = oclo E t
  | 0, t, h => by obtain rfl : t = 0 := by omega
                  rfl
  | n + 1, t, h => by
    by_cases he : t = n + 1
    · subst he; rfl
    · show (if t = n + 1 then _ else _) = _
      rw [if_neg he]; exact cloN_stable (by omega)
theorem clo_zero (E : Nat → Option Int) : oclo E 0 = some 0 := rfl
theorem clo_step (E : Nat → Option Int) (n : Nat) : oclo E (n + 1) = partTo (oclo E) (E (n + 1)) (n + 1) n := by
  show (if n + 1 = n + 1 then _ else _) = _
  rw [if_pos rfl]
  exact partTo_congr fun s h1 h2 => ⟨cloN_stable h2, cloN_stable (by omega)⟩
theorem clo_le {t : Nat} (ht : 1 ≤ t) : ole (oclo E t) (E t) := by
  obtain ⟨n, rfl⟩ : ∃ n, t = n + 1 := ⟨t - 1, by omega⟩
  rw [clo_step]; exact partTo_e n
theorem clo_sub (E : Nat → Option Int) (s u : Nat) : ole (oclo E (s + u)) (oadd (oclo E s) (oclo E u)) := by
  rcases Nat.eq_zero_or_pos s with rfl | hs
  · rw [clo_zero, oadd_comm, oadd_zero, Nat.zero_add]; exact ole_refl _
  rcases Nat.eq_zero_or_pos u with rfl | hu
  · rw [clo_zero, oadd_zero]; exact ole_refl _
  obtain ⟨n, hn⟩ : ∃ n, s + u = n + 1 := ⟨s + u - 1, by omega⟩
  rw [hn, clo_step]
  have := partTo_le (h := oclo E) (e := E (n + 1)) (t := n + 1) (s := s) (k := n) hs (by omega)
  rwa [show n + 1 - s = u by omega] at this
theorem clo_found (E : Nat → Option Int) {t : Nat} (ht : 1 ≤ t) : oclo E t = E t ∨ ∃ s, 1 ≤ s ∧ s < t ∧ oclo E t = oadd (oclo E s) (oclo E (t - s)) := by
  obtain ⟨n, rfl⟩ : ∃ n, t = n + 1 := ⟨t - 1, by omega⟩
  rw [clo_step]
  rcases partTo_found (h := oclo E) (e := E (n + 1)) (t := n + 1) n with h | ⟨s, h1, h2, h⟩
  · exact .inl h
  · exact .inr ⟨s, h1, by omega, h⟩
/-- A function that is sub-additive. -/
def SubA (C : Nat → Option Int) : Prop := ∀ s u, ole (C (s + u)) (oadd (C s) (C u))
/-- The closure is the greatest one. -/
theorem clo_great (hs : SubA C) (hl : ∀ t, 1 ≤ t → ole (C t) (E t)) {t : Nat} (ht : 1 ≤ t) : ole (C t) (oclo E t) := by
  induction t using Nat.strongRecOn with
  | ind t ih =>
    rcases clo_found E ht with h | ⟨s, h1, h2, h⟩
    · rw [h]; exact hl t ht
    · rw [h]
      have := hs s (t - s)
      rw [show s + (t - s) = t by omega] at this
      exact ole_trans this (ole_oadd2 (ih s h2 h1) (ih (t - s) (by omega) (by omega)))
theorem clo_great0 (hs : SubA C) (hl : ∀ t, 1 ≤ t → ole (C t) (E t)) (h0 : ole (C 0) (some 0)) (t : Nat) : ole (C t) (oclo E t) := by
  rcases Nat.eq_zero_or_pos t with rfl | ht
  · exact h0
  · exact clo_great hs hl ht
theorem clo_unique (hs : SubA C) (hl : ∀ t, 1 ≤ t → ole (C t) (E t)) (h0 : C 0 = some 0) (hf : ∀ t, ole (oclo E t) (C t)) : C = oclo E :=
  funext fun t => ole_anti (clo_great0 hs hl (by rw [h0]; exact ole_refl _) t) (hf t)
theorem clo_nn (h : ∀ t x, E t = some x → 0 ≤ x) : ∀ {t : Nat} {x : Int}, oclo E t = some x → 0 ≤ x := fun {t} => by
  induction t using Nat.strongRecOn with
  | ind t ih =>
    intro x hx
    rcases Nat.eq_zero_or_pos t with rfl | ht
    · rw [clo_zero] at hx; cases hx; omega
    rcases clo_found E ht with e | ⟨s, h1, h2, e⟩
    · rw [e] at hx; exact h t x hx
    · rw [e] at hx
      obtain ⟨y, z, hy, hz, rfl⟩ := both_some hx
      have := ih s h2 hy
      have := ih (t - s) (by omega) hz
      omega
/-- The closure of a function that does not decrease does not decrease. -/
theorem clo_up (hm : ∀ t, 1 ≤ t → ole (E t) (E (t + 1))) (hn : ∀ t x, E t = some x → 0 ≤ x) (t : Nat) : ole (oclo E t) (oclo E (t + 1)) := by
  induction t using Nat.strongRecOn with
  | ind t ih =>
    rcases Nat.eq_zero_or_pos t with rfl | ht
    · intro x hx; exact ⟨0, rfl, clo_nn hn hx⟩
    rcases clo_found E (show 1 ≤ t + 1 by omega) with e | ⟨s, h1, h2, e⟩
    · rw [e]; exact ole_trans (clo_le ht) (hm t ht)
    · rw [e]
      by_cases hst : s = t
      · subst hst
        rw [show s + 1 - s = 1 by omega]
        exact ole_oadd fun y hy => clo_nn hn hy
      · have h3 := ih (t - s) (by omega)
        rw [show t - s + 1 = t + 1 - s by omega] at h3
        have h4 := clo_sub E s (t - s)
        rw [show s + (t - s) = t by omega] at h4
        exact ole_trans h4 (ole_oadd2 (ole_refl _) h3)

/-- What a certificate shows: below horizon and a period each tick is the curve's or a sum, and behind it they go on so. -/
theorem clo_cert {h : Nat → Option Int} {fr L sh : Nat} (hL : 1 ≤ L) (hs : SubA h) (h0 : h 0 = some 0) (hl : ∀ t, 1 ≤ t → ole (h t) (E t)) (hfr : sh ≤ fr) (h1 : 1 ≤ fr)
    {c : Int} (hP : ∀ t, sh ≤ t → h (t + L) = oadd (h t) (some c))
    (hat : ∀ t, 1 ≤ t → t < fr + L → (E t = h t ∧ (fr ≤ t → h t ≠ none → ∀ u, fr ≤ u → E (u + L) = oadd (E u) (some c))) ∨ ∃ s, 1 ≤ s ∧ s < t ∧ h t = oadd (h s) (h (t - s)) ∧ (fr ≤ t → sh ≤ t - s)) : h = oclo E := by
  refine clo_unique hs hl h0 fun t => ?_
  induction t using Nat.strongRecOn with
  | ind t ih =>
    rcases Nat.eq_zero_or_pos t with rfl | ht
    · rw [h0]; exact ole_refl _
    -- the tick below the horizon and a period that is like t
    obtain ⟨u, k, hu, rfl, hk⟩ : ∃ u k, u < fr + L ∧ t = u + k * L ∧ (1 ≤ k → fr ≤ u) := by
      by_cases hlt : t < fr + L
      · exact ⟨t, 0, hlt, by omega, by omega⟩
      · refine ⟨fr + (t - fr) % L, (t - fr) / L, by have := Nat.mod_lt (t - fr) hL; omega, ?_, fun _ => by omega⟩
        have := Nat.div_add_mod (t - fr) L
        rw [Nat.mul_comm] at this
        omega
    have hPk : ∀ k v, sh ≤ v → h (v + k * L) = oadd (h v) (some ((k : Int) * c)) := fun k => by
      induction k with
      | zero => intro v _; rw [Nat.zero_mul, Nat.add_zero]; simp only [Int.natCast_zero, Int.zero_mul]; rw [oadd_zero]
      | succ k ihk =>
        intro v hv
        rw [show v + (k + 1) * L = v + k * L + L by rw [Nat.succ_mul]; omega, hP _ (by omega), ihk v hv, oadd_assoc3]
        congr 2
        rw [show (((k + 1 : Nat) : Int)) = (k : Int) + 1 by omega, Int.add_mul]; omega
    have hu1 : 1 ≤ u := by
      rcases Nat.eq_zero_or_pos k with rfl | hk1
      · omega
      · have := hk hk1; omega
    rcases hat u hu1 hu with ⟨e, hgo⟩ | ⟨s, s1, s2, e, s3⟩
    · -- the curve itself
      rcases Nat.eq_zero_or_pos k with rfl | hk1
      · rw [Nat.zero_mul, Nat.add_zero, ← e]; exact clo_le hu1
      · have hfu := hk hk1
        cases hx : h u with
        | none => rw [hPk k u (by omega), hx, oadd_none_l]; exact ole_none _
        | some x =>
          have hEk : ∀ k v, fr ≤ v → E (v + k * L) = oadd (E v) (some ((k : Int) * c)) := fun k => by
            induction k with
            | zero => intro v _; rw [Nat.zero_mul, Nat.add_zero]; simp only [Int.natCast_zero, Int.zero_mul]; rw [oadd_zero]
            | succ k ihk =>
              intro v hv
              rw [show v + (k + 1) * L = v + k * L + L by rw [Nat.succ_mul]; omega, hgo hfu (by rw [hx]; simp) _ (by omega), ihk v hv, oadd_assoc3]
              congr 2
              rw [show (((k + 1 : Nat) : Int)) = (k : Int) + 1 by omega, Int.add_mul]; omega
          have e2 : E (u + k * L) = h (u + k * L) := by rw [hEk k u hfu, hPk k u (by omega), e]
          rw [← e2]; exact clo_le (by omega)
    · -- a sum
      rcases Nat.eq_zero_or_pos k with rfl | hk1
      · rw [Nat.zero_mul, Nat.add_zero, e]
        have h3 := clo_sub E s (u - s)
        rw [show s + (u - s) = u by omega] at h3
        exact ole_trans h3 (ole_oadd2 (ih s (by rw [Nat.zero_mul]; omega) ) (ih (u - s) (by rw [Nat.zero_mul]; omega)))
      · have hfu := hk hk1
        have hss := s3 hfu
        have hLk : 1 ≤ k * L := Nat.mul_pos hk1 hL
        have e2 : h (u + k * L) = oadd (h s) (h (u - s + k * L)) := by
          rw [hPk k u (by omega), hPk k (u - s) hss, e, oadd_assoc]
        rw [e2]
        have h3 := clo_sub E s (u - s + k * L)
        rw [show s + (u - s + k * L) = u + k * L by omega] at h3
        exact ole_trans h3 (ole_oadd2 (ih s (by omega)) (ih (u - s + k * L) (by omega)))
end

end Go.Proofs.Ytjjaaknjdmijbaa
