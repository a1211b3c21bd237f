/- Which sums and multiples there are of curves that were drawn. Nothing here speaks of the program. By the verifier's side. -/
import Derived.Test.YtbaboncanplikaaPwX
namespace Go.Proofs.Ytbaboncanplikaa

theorem can_of_inf {E : Nat → Option Int} (hu : ∀ t, E t = none → E (t + 1) = none) (hex : E 399 = none) (hb : ∀ t x, t ≤ 399 → E t = some x → 0 ≤ x ∧ x ≤ 1073741824) (hm : ∀ t x y, E t = some x → E (t + 1) = some y → x ≤ y) : ECan E := by
  obtain ⟨i, hi, hl⟩ := least_ex (P := fun t => E t = none) ⟨399, hex⟩
  have hi9 : i ≤ 399 := Nat.le_of_not_lt fun h => hl 399 h hex
  have hs : ∀ t, t < i → E t = some (encF E t) := fun t ht => by
    unfold encF
    cases h : E t with
    | none => exact absurd h (hl t ht)
    | some x => rfl
  refine can_inf (F := encF E) hi9 hs (fun t ht => ?_) (fun t ht => hb t _ (by omega) (hs t ht)) (fun t ht => hm t _ _ (hs t (by omega)) (hs (t + 1) ht))
  rw [show t = i + (t - i) by omega]
  exact stays hu hi _

section
variable {zs ys : List Int} {p q most : Nat} {inc jnc : Int}

theorem eC_mono (g : Good zs p inc) {t : Nat} {x y : Int} (h : eC zs p inc t = some x) (k : eC zs p inc (t + 1) = some y) : x ≤ y := by
  have h1 := (eC_bd g h).2.2
  have h2 := (eC_bd g k).2.2
  have := g.step t
  omega

/-- Of a curve that was drawn the values up to tick 399 are small. -/
theorem drawn_bd (o : OkCur most zs p inc) {t : Nat} {x : Int} (ht : t ≤ 399) (h : eC zs p inc t = some x) : 0 ≤ x ∧ x ≤ 10000 := by
  have hb := eC_bd o.good h
  by_cases hi : InfC zs
  · rcases eC_inf o.good hi t with h1 | ⟨y, h1, h2, h3, h4⟩
    · rw [h1] at h; cases h
    · rw [h1] at h; cases h
      refine ⟨h3, ?_⟩
      have hlt : t < zs.length := Nat.lt_of_not_le fun hle => by rw [eC_late o.good hi (by omega)] at h1; cases h1
      rcases o.val t hlt with h5 | h5
      · rw [atC_lt hlt] at h2; omega
      · rw [atC_lt hlt, h5] at h2; unfold infV at h2; omega
  · have := o.slow hi t
    rw [hb.2.2] at this
    omega

theorem sum_can (o : OkCur most zs p inc) (k : OkCur most ys q jnc) (hm : most ≤ 9) : ECan (eSum zs p inc ys q jnc) := by
  have g := o.good; have h := k.good
  have e399 : ∀ {zs : List Int} {p : Nat} {inc : Int}, Good zs p inc → InfC zs → eC zs p inc 399 = none := fun g hi => eC_400 g hi (Nat.le_refl _)
  have hbd : ∀ t x, t ≤ 399 → eSum zs p inc ys q jnc t = some x → 0 ≤ x ∧ x ≤ 1073741824 := fun t x ht hx => by
    obtain ⟨y, z, h1, h2, rfl⟩ := both_some hx
    have := drawn_bd o ht h1
    have := drawn_bd k ht h2
    omega
  have hmo : ∀ t x y, eSum zs p inc ys q jnc t = some x → eSum zs p inc ys q jnc (t + 1) = some y → x ≤ y := fun t x y hx hy => by
    obtain ⟨x1, x2, h1, h2, rfl⟩ := both_some hx
    obtain ⟨y1, y2, k1, k2, rfl⟩ := both_some hy
    have := eC_mono g h1 k1
    have := eC_mono h h2 k2
    omega
  by_cases hi : InfC zs
  · exact can_of_inf (sum_up g h) (by unfold eSum; rw [e399 g hi, oadd_none_l]) hbd hmo
  by_cases hj : InfC ys
  · exact can_of_inf (sum_up g h) (by unfold eSum; rw [e399 h hj, oadd_none_r]) hbd hmo
  have a1 := g.p1; have a2 := h.p1; have a3 := o.p8; have a4 := k.p8; have a5 := o.few; have a6 := k.few
  have b1 := o.inc; have b2 := k.inc; have b3 := g.i0; have b4 := h.i0
  have hpq : p * q ≤ 8 * 8 := Nat.mul_le_mul a3 a4
  have hpq1 : 1 ≤ p * q := Nat.mul_pos (by omega) (by omega)
  have ha : Per (atC zs p inc) 16 (p * q) ((q : Int) * inc) := by
    have := (g.per hi).mul q
    rw [Nat.mul_comm] at this
    exact this.mono (by omega)
  have hb : Per (atC ys q jnc) 16 (p * q) ((p : Int) * jnc) := ((h.per hj).mul p).mono (by omega)
  have hc1 : (q : Int) * inc ≤ 8 * 1000 := Int.mul_le_mul (by omega) b1 b3 (by omega)
  have hc2 : (p : Int) * jnc ≤ 8 * 1000 := Int.mul_le_mul (by omega) b2 b4 (by omega)
  refine can_fin (F := fun t => atC zs p inc t + atC ys q jnc t) (s := 16) (p := p * q) (c := (q : Int) * inc + (p : Int) * jnc) (fun t => by unfold eSum; rw [eC_fin hi, eC_fin hj]; rfl) (fun t ht => ?_) hpq1 (by omega) (by omega) ?_ (fun t _ => ?_) ?_ (by omega)
  · show atC zs p inc (t + p * q) + atC ys q jnc (t + p * q) = atC zs p inc t + atC ys q jnc t + _
    rw [ha t ht, hb t ht]; omega
  · show 0 ≤ atC zs p inc 0 + atC ys q jnc 0
    have := (g.bd hi 0).1; have := (h.bd hj 0).1; omega
  · show atC zs p inc t + atC ys q jnc t ≤ atC zs p inc (t + 1) + atC ys q jnc (t + 1)
    have := g.step t; have := h.step t; omega
  · show atC zs p inc (16 + p * q - 1) + atC ys q jnc (16 + p * q - 1) ≤ 1073741824
    have := o.slow hi (16 + p * q - 1); have := k.slow hj (16 + p * q - 1); omega

end

end Go.Proofs.Ytbaboncanplikaa
