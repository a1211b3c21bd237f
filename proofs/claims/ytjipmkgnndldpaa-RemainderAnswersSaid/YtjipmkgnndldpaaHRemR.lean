/- What the document's Rest and Above hand to Made, and when there is no curve. Nothing here speaks of the program. By the verifier's side. -/
import Derived.Test.YtjipmkgnndldpaaHPwMPwOPwXR56M
namespace Go.Proofs.Ytjipmkgnndldpaa
set_option linter.unusedVariables false

section
variable {zs ys : List Int} {p q : Nat} {inc jnc : Int}

theorem restG_bd (g : Good zs p inc) (k : Good ys q jnc) {L : Nat} (hL2 : L ≤ 120) : 0 ≤ restG zs p inc ys q jnc L ∧ restG zs p inc ys q jnc L ≤ 128849018880 := by
  have b1 := grow_bd g hL2
  have b2 := grow_bd k hL2
  rw [Int.mul_comm] at b1 b2
  unfold restG
  split <;> omega

theorem rest_none (g : Good zs p inc) (k : Good ys q jnc) {t : Nat} (h : eRest zs p inc ys q jnc t = none) : InfC zs ∧ eRest zs p inc ys q jnc 399 = none := by
  obtain ⟨s, _, e⟩ := maxO_none h
  obtain ⟨hi, r, hr, _, e⟩ := eDif_none g k e
  refine ⟨hi, ?_⟩
  have := maxO_ole (eDif zs p inc ys q jnc) hr
  change ole _ (eRest zs p inc ys q jnc 399) at this
  cases h3 : eRest zs p inc ys q jnc 399 with
  | none => rfl
  | some y => obtain ⟨x, hx, _⟩ := this y h3; rw [e] at hx; cases hx
theorem rest_late {t : Nat} (h : eRest zs p inc ys q jnc 399 = none) (ht : 399 ≤ t) : eRest zs p inc ys q jnc t = none := by
  have := stays (E := eRest zs p inc ys q jnc) (fun t h => maxO_up h) h (t - 399)
  rwa [show 399 + (t - 399) = t by omega] at this

theorem rest_raw (g : Good zs p inc) (k : Good ys q jnc) {L : Nat} (hL : Mult p q L) (hL2 : L ≤ 120) (hc : encF (eRest zs p inc ys q jnc) (400 + L) - encF (eRest zs p inc ys q jnc) 400 = restG zs p inc ys q jnc L) :
    RawE (firsts (encF (eRest zs p inc ys q jnc)) (400 + L)) L (restG zs p inc ys q jnc L) (eRest zs p inc ys q jnc) := by
  have h1 := hL.one
  have hb := restG_bd g k hL2
  refine rawE_of (by omega) h1 (by omega) (by omega) (by omega) (fun t h => maxO_up h) (fun t ht x hx => ?_) (fun _ => ?_) (fun h => ?_)
  · have := rest_bd g k hx; omega
  · rw [Nat.add_sub_cancel]; exact (rest_sett g k hL).1 hc
  · obtain ⟨t, ht⟩ := h
    exact ⟨399, by omega, (rest_none g k ht).2⟩
theorem rest_inf (g : Good zs p inc) (k : Good ys q jnc) {L : Nat} (h : eRest zs p inc ys q jnc (400 + L) = none) : encF (eRest zs p inc ys q jnc) (400 + L) - encF (eRest zs p inc ys q jnc) 400 = restG zs p inc ys q jnc L ∧ restG zs p inc ys q jnc L = 0 := by
  obtain ⟨hi, h3⟩ := rest_none g k h
  have h0 : restG zs p inc ys q jnc L = 0 := restG_inf (.inl hi)
  refine ⟨?_, h0⟩
  rw [encF_none h, encF_none (rest_late h3 (by omega)), h0]
  omega

/-! ## The least from a tick on -/

theorem above_none (g : Good zs p inc) (k : Good ys q jnc) {t : Nat} (h : eAbove zs p inc ys q jnc t = none) : eAbove zs p inc ys q jnc 400 = none := by
  have hn : ∀ s, t ≤ s → eDif zs p inc ys q jnc s = none := fun s hs => by
    cases e : eDif zs p inc ys q jnc s with
    | none => rfl
    | some y => obtain ⟨x, hx, _⟩ := above_le hs y e; rw [h] at hx; cases hx
  obtain ⟨h1, y, h2⟩ := osub_none (hn (max t 400) (by omega))
  have hi := (eC_none.1 h1).1
  have f2 : ¬ InfC ys := fun f => by rw [eC_400 k f (by omega)] at h2; cases h2
  exact minO_eq ⟨⟨400, Nat.le_refl _, eDif_f g hi f2 (by omega)⟩, fun s hs => by rw [eDif_f g hi f2 (by omega)]; exact ole_refl _⟩

theorem above_raw (g : Good zs p inc) (k : Good ys q jnc) {L : Nat} (hL : Mult p q L) (hL2 : L ≤ 120) (hs : Still zs p inc ys q jnc L) (hc : encF (eAbove zs p inc ys q jnc) (400 + L) - encF (eAbove zs p inc ys q jnc) 400 = restG zs p inc ys q jnc L) :
    RawE (firsts (encF (eAbove zs p inc ys q jnc)) (400 + L)) L (restG zs p inc ys q jnc L) (eAbove zs p inc ys q jnc) := by
  have h1 := hL.one
  have hb := restG_bd g k hL2
  refine rawE_of (by omega) h1 (by omega) (by omega) (by omega) (fun t h => minO_up (fun _ _ => eDif_nn) h) (fun t ht x hx => ?_) (fun _ => ?_) (fun h => ?_)
  · have h := above_mid g k (t := t) (by omega)
    rw [encF_some hx] at h
    rcases h with h | h
    · exact absurd (show x = infV from h) (fun e => by
        have := (above_tame g k).2
        rcases this with ⟨u, hu, y, hy, hne⟩ | h2
        · cases h5 : eDif zs p inc ys q jnc t with
          | some z =>
            obtain ⟨v, hv, hle⟩ := above_le (Nat.le_refl t) z h5
            rw [hx] at hv; cases hv
            have := eDif_bd g k h5
            unfold infV at e; omega
          | none =>
            by_cases h4 : t ≤ 400
            · have := (above_bd g k hx).2 h4; unfold infV at e; omega
            · obtain ⟨k1, z, k2⟩ := osub_none h5
              have hi := (eC_none.1 k1).1
              by_cases f2 : InfC ys
              · rw [eC_400 k f2 (by omega)] at k2; cases k2
              · have h6 : eAbove zs p inc ys q jnc t = none := minO_eq ⟨⟨t, Nat.le_refl _, h5⟩, fun s hs => by rw [eDif_f g hi f2 (by omega)]; exact ole_refl _⟩
                rw [hx] at h6; cases h6
        · exact h2 t x hx e)
    · exact ⟨h.1, by omega⟩
  · rw [Nat.add_sub_cancel]; exact (above_sett g k hL hs).1 hc
  · obtain ⟨t, ht⟩ := h
    exact ⟨400, by omega, above_none g k ht⟩

/-- Without a greater growth the least difference does not change behind tick 400. -/
theorem above_flat (g : Good zs p inc) (k : Good ys q jnc) {L : Nat} (hL : Mult p q L) (h : ¬ InfC zs → ¬ InfC ys → ((L / p : Nat) : Int) * inc - ((L / q : Nat) : Int) * jnc = 0) :
    encF (eAbove zs p inc ys q jnc) (400 + L) - encF (eAbove zs p inc ys q jnc) 400 = restG zs p inc ys q jnc L ∧ restG zs p inc ys q jnc L = 0 := by
  by_cases f2 : InfC ys
  · have e : ∀ t, 400 ≤ t → encF (eAbove zs p inc ys q jnc) t = 0 := fun t ht => encF_some (minO_eq ⟨⟨t, Nat.le_refl _, eDif_g k f2 (by omega)⟩, fun s h => by rw [eDif_g k f2 (by omega)]; exact ole_refl _⟩)
    rw [e _ (Nat.le_refl _), e _ (by omega), restG_inf (.inr f2)]
    omega
  · by_cases f1 : InfC zs
    · have e : ∀ t, 400 ≤ t → encF (eAbove zs p inc ys q jnc) t = infV := fun t ht => encF_none (minO_eq ⟨⟨t, Nat.le_refl _, eDif_f g f1 f2 (by omega)⟩, fun s h => by rw [eDif_f g f1 f2 (by omega)]; exact ole_refl _⟩)
      rw [e _ (Nat.le_refl _), e _ (by omega), restG_inf (.inl f1)]
      omega
    · have h0 := h f1 f2
      rw [restG_fin f1 f2, h0]
      have hd := dif_per g k hL f1 f2
      rw [h0] at hd
      have hp := low_per (D := eDif zs p inc ys q jnc) (fun t => eDif_fin f1 f2 t) (fun _ _ => eDif_nn) (pos_per hd (Int.le_refl _) (.inl rfl)) 400 (Nat.le_refl _)
      change encF (eAbove zs p inc ys q jnc) (400 + L) = encF (eAbove zs p inc ys q jnc) 400 + 0 at hp
      rw [hp]
      omega
/-- Where the first curve has passed the second one, the least difference grows with it. -/
theorem above_pass (g : Good zs p inc) (k : Good ys q jnc) {L : Nat} (hL : Mult p q L) (f1 : ¬ InfC zs) (f2 : ¬ InfC ys) (h0 : 0 < ((L / p : Nat) : Int) * inc - ((L / q : Nat) : Int) * jnc) (h : ∀ t, 400 ≤ t → t < 400 + L → 0 ≤ atC zs p inc t - atC ys q jnc t) :
    encF (eAbove zs p inc ys q jnc) (400 + L) - encF (eAbove zs p inc ys q jnc) 400 = restG zs p inc ys q jnc L := by
  have hd := dif_per g k hL f1 f2
  have ha : ∀ t, 400 ≤ t → 0 ≤ (fun t => atC zs p inc t - atC ys q jnc t) t := fun t ht => by
    obtain ⟨r, j, hr, rfl⟩ := tick_split hL.one ht
    have e : atC zs p inc (400 + r + j * L) - atC ys q jnc (400 + r + j * L) = atC zs p inc (400 + r) - atC ys q jnc (400 + r) + _ := hd.to r j
    have h2 : 0 ≤ (j : Int) * (((L / p : Nat) : Int) * inc - ((L / q : Nat) : Int) * jnc) := Int.mul_nonneg (by omega) (by omega)
    have h1 : 0 ≤ atC zs p inc (400 + r) - atC ys q jnc (400 + r) := h (400 + r) (by omega) (by omega)
    show 0 ≤ atC zs p inc (400 + r + j * L) - atC ys q jnc (400 + r + j * L)
    omega
  have hp := low_per (D := eDif zs p inc ys q jnc) (fun t => eDif_fin f1 f2 t) (fun _ _ => eDif_nn) (pos_per hd (by omega) (.inr ha)) 400 (Nat.le_refl _)
  change encF (eAbove zs p inc ys q jnc) (400 + L) = encF (eAbove zs p inc ys q jnc) 400 + _ at hp
  rw [hp, restG_fin f1 f2]
  omega
theorem above_fail (g : Good zs p inc) (k : Good ys q jnc) {L : Nat} (hL : Mult p q L) (f1 : ¬ InfC zs) (f2 : ¬ InfC ys) (h0 : 0 < ((L / p : Nat) : Int) * inc - ((L / q : Nat) : Int) * jnc) {t : Nat} (ht : 400 ≤ t) (h : atC zs p inc t - atC ys q jnc t < 0) :
    ¬ ECan (eAbove zs p inc ys q jnc) := by
  have hs : Still zs p inc ys q jnc L := fun _ _ => by omega
  have hset := above_sett g k hL hs
  intro hE
  by_cases hc : encF (eAbove zs p inc ys q jnc) (400 + L) - encF (eAbove zs p inc ys q jnc) 400 = restG zs p inc ys q jnc L
  · have hp := hset.1 hc t ht
    have hA : eAbove zs p inc ys q jnc t = some 0 := minO_eq ⟨⟨t, Nat.le_refl _, by rw [eDif_fin f1 f2]; congr 1; omega⟩, fun s _ y hy => ⟨0, rfl, eDif_nn hy⟩⟩
    rw [encF_some hA, restG_fin f1 f2] at hp
    have h1 := above_le (zs := zs) (p := p) (inc := inc) (ys := ys) (q := q) (jnc := jnc) (Nat.le_refl (t + L))
    rw [eDif_fin f1 f2] at h1
    obtain ⟨x, hx, hle⟩ := h1 _ rfl
    rw [encF_some hx] at hp
    have e : atC zs p inc (t + L) - atC ys q jnc (t + L) = atC zs p inc t - atC ys q jnc t + _ := dif_per g k hL f1 f2 t ht
    omega
  · exact hset.no hc hE.can
end

end Go.Proofs.Ytjipmkgnndldpaa
