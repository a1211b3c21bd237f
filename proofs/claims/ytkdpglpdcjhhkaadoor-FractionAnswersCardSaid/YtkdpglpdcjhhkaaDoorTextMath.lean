/- Texts of fractions are read back: plain lists of bytes. By the verifier's side. -/
import Derived.Test.YtkdpglpdcjhhkaaDoorText
import Derived.Lib.AtoiAllCases
namespace Go.Proofs.YtkdpglpdcjhhkaaDoor

def IsDigit (c : UInt8) : Prop := 48 ≤ c.toNat ∧ c.toNat ≤ 57

theorem digit_byte (k : Nat) (h : k < 10) : (UInt8.ofNat (48 + k)).toNat = 48 + k := by
  simp; omega

theorem decDigits_step (u : Nat) (h : ¬ u < 10) : Lib.decDigits u = Lib.decDigits (u / 10) ++ [UInt8.ofNat (48 + u % 10)] := by
  rw [Lib.decDigits, dif_neg h]

theorem decDigits_digits (u : Nat) : ∀ c ∈ Lib.decDigits u, IsDigit c := by
  induction u using Nat.strongRecOn with
  | ind u ih =>
    by_cases h : u < 10
    · rw [digit u h]
      intro c hc
      rw [List.mem_singleton] at hc
      subst hc
      unfold IsDigit
      rw [digit_byte u h]
      omega
    · rw [decDigits_step u h]
      intro c hc
      rcases List.mem_append.1 hc with hc | hc
      · exact ih (u / 10) (by omega) c hc
      · rw [List.mem_singleton] at hc
        subst hc
        unfold IsDigit
        rw [digit_byte _ (Nat.mod_lt _ (by decide))]
        omega

theorem decDigits_ne (u : Nat) : Lib.decDigits u ≠ [] := by
  by_cases h : u < 10
  · rw [digit u h]; simp
  · rw [decDigits_step u h]; simp

theorem parse_snoc (c : UInt8) (hc : IsDigit c) : ∀ (l : List UInt8) (acc v : Nat), Lib.parseUint10 acc l = .ok v → v < 1000000000000000000 → Lib.parseUint10 acc (l ++ [c]) = .ok (v * 10 + (c.toNat - 48))
  | [], acc, v, h, hv => by
    simp only [Lib.parseUint10] at h
    injection h with h
    subst h
    simp only [List.nil_append, Lib.parseUint10]
    unfold IsDigit at hc
    rw [if_pos hc, if_neg (by omega), if_neg (by omega)]
  | x :: l, acc, v, h, hv => by
    simp only [Lib.parseUint10] at h
    simp only [List.cons_append, Lib.parseUint10]
    split at h
    · rename_i h1
      rw [if_pos h1]
      split at h
      · cases h
      · rename_i h2
        rw [if_neg h2]
        split at h
        · cases h
        · rename_i h3
          rw [if_neg h3]
          exact parse_snoc c hc l _ v h hv
    · cases h

theorem parse_digits (u : Nat) (hu : u < 1000000000000000000) : Lib.parseUint10 0 (Lib.decDigits u) = .ok u := by
  induction u using Nat.strongRecOn with
  | ind u ih =>
    by_cases h : u < 10
    · rw [digit u h]
      simp only [Lib.parseUint10]
      rw [digit_byte u h, if_pos (by omega), if_neg (by omega), if_neg (by omega)]
      congr 1
      omega
    · rw [decDigits_step u h]
      have h1 := ih (u / 10) (by omega) (by omega)
      have h2 : IsDigit (UInt8.ofNat (48 + u % 10)) := by
        unfold IsDigit
        rw [digit_byte _ (Nat.mod_lt _ (by decide))]
        omega
      rw [parse_snoc _ h2 _ _ _ h1 (by omega), digit_byte _ (Nat.mod_lt _ (by decide))]
      congr 1
      omega

theorem parseMag_digits (u : Nat) (hu : u < 1000000000000000000) : Lib.parseMag (Lib.decDigits u) = .ok u := by
  unfold Lib.parseMag
  rw [if_neg (decDigits_ne u)]
  exact parse_digits u hu

theorem atoi_itoa (n : Int) (h1 : -1000000000000000000 < n) (h2 : n < 1000000000000000000) : Lib.atoiAll (Lib.itoa n) = .ok n := by
  unfold Lib.itoa
  by_cases h : n < 0
  · rw [if_pos h, Lib.atoiAll_minus, parseMag_digits n.natAbs (by omega)]
    unfold Lib.signed
    simp only
    rw [if_neg (by omega)]
    congr 1
    omega
  · rw [if_neg h]
    have hm := parseMag_digits n.toNat (by omega)
    have hd := decDigits_digits n.toNat
    cases hl : Lib.decDigits n.toNat with
    | nil => exact absurd hl (decDigits_ne _)
    | cons c r =>
      rw [hl] at hm hd
      have hc := hd c (List.mem_cons_self ..)
      unfold IsDigit at hc
      rw [Lib.atoiAll_plain c r (by omega) (by omega), hm]
      unfold Lib.signless
      simp only
      rw [if_neg (by omega)]
      congr 1
      omega

theorem index_slash : ∀ (xs ys : List UInt8), (∀ c ∈ xs, c ≠ 47) → Lib.index (xs ++ 47 :: ys) [47] = xs.length
  | [], ys, _ => by simp [Lib.index]
  | x :: xs, ys, h => by
    have h1 := h x (List.mem_cons_self ..)
    have h2 := index_slash xs ys (fun c hc => h c (List.mem_cons_of_mem _ hc))
    simp only [List.cons_append, Lib.index]
    have e : ([47] : List UInt8).isPrefixOf (x :: (xs ++ 47 :: ys)) = false := by
      simp [List.isPrefixOf]; exact fun e => h1 e.symm
    rw [e, h2]
    have e2 : (((xs.length : Nat) : Int) == -1) = false := by simp
    rw [if_neg (by simp), e2]
    simp

theorem index_none47 : ∀ (xs : List UInt8), (∀ c ∈ xs, c ≠ 47) → Lib.index xs [47] = -1
  | [], _ => by simp [Lib.index]
  | x :: xs, h => by
    have h1 := h x (List.mem_cons_self ..)
    have h2 := index_none47 xs (fun c hc => h c (List.mem_cons_of_mem _ hc))
    simp only [Lib.index]
    have e : ([47] : List UInt8).isPrefixOf (x :: xs) = false := by
      simp [List.isPrefixOf]; exact fun e => h1 e.symm
    rw [e, h2]
    simp

theorem cut_slash (xs ys : List UInt8) (h : ∀ c ∈ xs, c ≠ 47) : Lib.cut (xs ++ 47 :: ys) [47] = (xs, ys, true) := by
  unfold Lib.cut
  rw [index_slash xs ys h, if_pos (by omega)]
  simp

theorem cut_none (xs : List UInt8) (h : ∀ c ∈ xs, c ≠ 47) : Lib.cut xs [47] = (xs, [], false) := by
  unfold Lib.cut
  rw [index_none47 xs h, if_neg (by omega)]

theorem itoa_plain (n : Int) : ∀ c ∈ Lib.itoa n, c ≠ 47 := by
  unfold Lib.itoa
  intro c hc
  split at hc
  · rcases List.mem_cons.1 hc with hc | hc
    · subst hc; decide
    · have := decDigits_digits _ c hc
      unfold IsDigit at this
      exact fun e => by subst e; revert this; decide
  · have := decDigits_digits _ c hc
    unfold IsDigit at this
    exact fun e => by subst e; revert this; decide

/-- The text of a valid fraction is read back. -/
theorem parse_format (n d : Int) (h : okF n d = true) : parseL (formatL n d) = (n, d, 0) := by
  have hb := (okF_iff n d).1 h
  have hn := atoi_itoa n (by omega) (by omega)
  have hd := atoi_itoa d (by omega) (by omega)
  by_cases h1 : d = 1
  · subst h1
    have e : formatL n 1 = Lib.itoa n := by unfold formatL; rw [if_pos h, if_pos rfl]
    have hc := cut_none _ (itoa_plain n)
    rw [parseL_one (n := n) (by rw [e, hc]; exact hn) (by rw [e, hc])]
    unfold checkL
    rw [if_pos rfl]
  · have e : formatL n d = Lib.itoa n ++ 47 :: Lib.itoa d := by unfold formatL; rw [if_pos h, if_neg h1]
    have hc := cut_slash _ (Lib.itoa d) (itoa_plain n)
    rw [parseL_two (n := n) (d := d) (by rw [e, hc]; exact hn) (by rw [e, hc]) (by rw [e, hc]; exact hd)]
    unfold checkL
    rw [if_pos rfl]

/-- What is read is a valid fraction with just this text. -/
theorem format_parse (l : List UInt8) (n d e : Int) (h : parseL l = (n, d, e)) : (e = 4 ∧ n = 0 ∧ d = 0) ∨ (e = 0 ∧ okF n d = true ∧ formatL n d = l) := by
  have hck : ∀ n' d' : Int, checkL l n' d' = (n, d, e) → l ≠ [] → (e = 4 ∧ n = 0 ∧ d = 0) ∨ (e = 0 ∧ okF n d = true ∧ formatL n d = l) := by
    intro n' d' hk hl
    unfold checkL at hk
    split at hk
    · rename_i hf
      simp only [Prod.mk.injEq] at hk
      obtain ⟨rfl, rfl, rfl⟩ := hk
      refine Or.inr ⟨rfl, ?_, hf⟩
      by_cases ho : okF n' d' = true
      · exact ho
      · unfold formatL at hf
        rw [if_neg ho] at hf
        exact absurd hf.symm hl
    · simp only [Prod.mk.injEq] at hk
      exact Or.inl ⟨hk.2.2.symm, hk.1.symm, hk.2.1.symm⟩
  by_cases hl : l = []
  · subst hl
    have : parseL [] = (0, 0, 4) := parseL_no1 (fun v hv => by
      have e : Lib.atoiAll (Lib.cut [] [47]).1 = Lib.atoiAll [] := rfl
      rw [e] at hv
      simp [Lib.atoiAll] at hv)
    rw [this] at h
    simp only [Prod.mk.injEq] at h
    exact Or.inl ⟨h.2.2.symm, h.1.symm, h.2.1.symm⟩
  · rcases ha : Lib.atoiAll (Lib.cut l [47]).1 with v | _ | _
    · cases hc : (Lib.cut l [47]).2.2
      · rw [parseL_one ha hc] at h
        exact hck _ _ h hl
      · rcases hb : Lib.atoiAll (Lib.cut l [47]).2.1 with v2 | _ | _
        · rw [parseL_two ha hc hb] at h
          exact hck _ _ h hl
        · rw [parseL_no2 ha hc (fun v hv => by rw [hb] at hv; cases hv)] at h
          simp only [Prod.mk.injEq] at h
          exact Or.inl ⟨h.2.2.symm, h.1.symm, h.2.1.symm⟩
        · rw [parseL_no2 ha hc (fun v hv => by rw [hb] at hv; cases hv)] at h
          simp only [Prod.mk.injEq] at h
          exact Or.inl ⟨h.2.2.symm, h.1.symm, h.2.1.symm⟩
    · rw [parseL_no1 (fun v hv => by rw [ha] at hv; cases hv)] at h
      simp only [Prod.mk.injEq] at h
      exact Or.inl ⟨h.2.2.symm, h.1.symm, h.2.1.symm⟩
    · rw [parseL_no1 (fun v hv => by rw [ha] at hv; cases hv)] at h
      simp only [Prod.mk.injEq] at h
      exact Or.inl ⟨h.2.2.symm, h.1.symm, h.2.1.symm⟩

end Go.Proofs.YtkdpglpdcjhhkaaDoor
