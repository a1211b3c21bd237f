/- Which curves there are of small ones: delays, sums, multiples; and what the operations undo. Nothing here speaks of the program. By the verifier's side. | Which sums and multiples there are of curves that were drawn. Nothing here speaks of the program. By the verifier's side. | Multiples of curves: which there are, and that they distribute over sums and minima. Nothing here speaks of the program. By the verifier's side. | The order of values that may be infinite, and of curves. Nothing here speaks of the program. By the verifier's side. | Which delays, advances and reductions there are of curves that are short and small, infinite ones too. Nothing here speaks of the program. By the verifier's side. | Functions of ticks as drawn curves, their sums and multiples are: with a common period, small, and early settled. Nothing here speaks of the program. By the verifier's side. | Sums, minima and maxima of values that may be infinite distribute. Nothing here speaks of the program. By the verifier's side. -/
import Derived.Test.YtladmpoopfabdaaPwO
namespace Go.Proofs.Ytladmpoopfabdaa

/-- A finite curve that is short and small. -/
structure Tiny (zs : List Int) (p : Nat) (inc : Int) : Prop where
  good : Good zs p inc
  fin : ¬ InfC zs
  len : zs.length ≤ 16
  p8 : p ≤ 8
  i3 : inc ≤ 1000
  up : ∀ t : Nat, atC zs p inc t ≤ 10000 + 1000 * (t : Int)

theorem tiny_of {zs : List Int} {p : Nat} {inc : Int} (g : Good zs p inc) (hf : ¬ InfC zs) (h1 : zs.length ≤ 16) (h2 : p ≤ 8) (h3 : inc ≤ 1000) (h4 : ∀ i, i < zs.length → zs.getD i 0 ≤ 10000 ∨ zs.getD i 0 = infV) : Tiny zs p inc := by
  refine ⟨g, hf, h1, h2, h3, fun t => ?_⟩
  have hp := g.p3; have hp1 := g.p1
  induction t using Nat.strongRecOn with
  | ind t ih =>
    by_cases hlt : t < zs.length
    · rw [atC_lt hlt]
      rcases h4 t hlt with h | h
      · omega
      · have := g.small hf hlt; rw [h] at this; unfold infV at this; omega
    · have e := g.per hf (t - p) (by omega)
      have := ih (t - p) (by omega)
      rw [show t - p + p = t by omega] at e
      omega

theorem raise_can {zs : List Int} {p : Nat} {inc : Int} (h : Tiny zs p inc) {c : Int} (h0 : 0 ≤ c) (h1 : c ≤ 1000) : ECan (eRaise c zs p inc) := by
  have g := h.good
  have a1 := g.p1; have a2 := g.p3; have a3 := h.len; have a4 := h.p8; have a5 := h.i3
  refine can_fin (F := fun t => if t = 0 then 0 else atC zs p inc t + c) (s := zs.length - p + 1) (p := p) (c := inc) (fun t => ?_) (fun t ht => ?_) a1 (by omega) (by omega) ?_ (fun t ht => ?_) ?_ (by omega)
  · unfold eRaise
    by_cases ht : t = 0
    · rw [if_pos ht, if_pos ht]
    · rw [if_neg ht, if_neg ht, eC_fin h.fin]; rfl
  · show (if t + p = 0 then 0 else atC zs p inc (t + p) + c) = (if t = 0 then 0 else atC zs p inc t + c) + inc
    rw [if_neg (by omega), if_neg (by omega), g.per h.fin t (by omega)]; omega
  · show (0 : Int) ≤ if 0 = 0 then 0 else _
    rw [if_pos rfl]; omega
  · show (if t = 0 then 0 else atC zs p inc t + c) ≤ if t + 1 = 0 then 0 else atC zs p inc (t + 1) + c
    rw [if_neg (show ¬ t + 1 = 0 by omega)]
    split
    · have := (g.bd h.fin (t + 1)).1; omega
    · have := g.step t; omega
  · show (if zs.length - p + 1 + p - 1 = 0 then 0 else atC zs p inc (zs.length - p + 1 + p - 1) + c) ≤ 1073741824
    rw [if_neg (by omega)]
    have := h.up (zs.length - p + 1 + p - 1)
    omega

theorem later_can {zs : List Int} {p : Nat} {inc : Int} (h : Tiny zs p inc) {d : Nat} (hd : d ≤ 100) : ECan (eLater d zs p inc) := by
  have g := h.good
  have a1 := g.p1; have a2 := g.p3; have a3 := h.len; have a4 := h.p8; have a5 := h.i3
  refine can_fin (F := fun t => if t < d then 0 else atC zs p inc (t - d)) (s := zs.length - p + d) (p := p) (c := inc) (fun t => ?_) (fun t ht => ?_) a1 (by omega) (by omega) ?_ (fun t ht => ?_) ?_ (by omega)
  · unfold eLater
    by_cases ht : t < d
    · rw [if_pos ht, if_pos ht]
    · rw [if_neg ht, if_neg ht, eC_fin h.fin]
  · show (if t + p < d then 0 else atC zs p inc (t + p - d)) = (if t < d then 0 else atC zs p inc (t - d)) + inc
    rw [if_neg (by omega), if_neg (by omega), show t + p - d = t - d + p by omega, g.per h.fin (t - d) (by omega)]
  · show (0 : Int) ≤ if 0 < d then 0 else atC zs p inc (0 - d)
    split
    · omega
    · exact (g.bd h.fin _).1
  · show (if t < d then 0 else atC zs p inc (t - d)) ≤ if t + 1 < d then 0 else atC zs p inc (t + 1 - d)
    by_cases h1 : t + 1 < d
    · rw [if_pos (by omega), if_pos h1]; omega
    · rw [if_neg h1]
      by_cases h2 : t < d
      · rw [if_pos h2]; exact (g.bd h.fin _).1
      · rw [if_neg h2, show t + 1 - d = t - d + 1 by omega]; exact g.step _
  · show (if zs.length - p + d + p - 1 < d then 0 else atC zs p inc (zs.length - p + d + p - 1 - d)) ≤ 1073741824
    rw [if_neg (by omega)]
    have := h.up (zs.length - p + d + p - 1 - d)
    omega

theorem self_can {zs : List Int} {p : Nat} {inc : Int} (g : Good zs p inc) : ECan (eC zs p inc) := ⟨zs, p, inc, g, fun _ => rfl⟩

theorem lower_raise {zs za : List Int} {p pa : Nat} {inc ia c : Int} (g : Good zs p inc) (hf : ¬ InfC zs) (h0 : zs.getD 0 0 = 0) (hc : 0 ≤ c) (he : ∀ t, eC za pa ia t = eRaise c zs p inc t) : eLower c za pa ia = eC zs p inc := by
  funext t
  have a1 := g.p1; have a2 := g.p3
  unfold eLower
  rw [he t]
  unfold eRaise
  rw [eC_fin hf]
  by_cases ht : t = 0
  · rw [if_pos ht, ht, atC_lt (by omega), h0]
    show some (max (0 - c) 0) = some 0
    rw [show max (0 - c) 0 = 0 by omega]
  · rw [if_neg ht]
    show some (max (atC zs p inc t + c - c) 0) = some (atC zs p inc t)
    have := (g.bd hf t).1
    rw [show max (atC zs p inc t + c - c) 0 = atC zs p inc t by omega]

theorem ahead_later {zs za : List Int} {p pa : Nat} {inc ia : Int} (g : Good zs p inc) (hf : ¬ InfC zs) (h0 : zs.getD 0 0 = 0) {d : Nat} (he : ∀ t, eC za pa ia t = eLater d zs p inc t) : eAhead d za pa ia = eC zs p inc := by
  funext t
  have a1 := g.p1; have a2 := g.p3
  unfold eAhead
  by_cases ht : t = 0
  · rw [if_pos ht, ht, eC_fin hf, atC_lt (by omega), h0]
  · rw [if_neg ht, he]
    unfold eLater
    rw [if_neg (by omega), show t + d - d = t by omega]

theorem later_later {zs za : List Int} {p pa : Nat} {inc ia : Int} {d m : Nat} (he : ∀ t, eC za pa ia t = eLater d zs p inc t) : eLater m za pa ia = eLater (d + m) zs p inc := by
  funext t
  unfold eLater
  by_cases h1 : t < m
  · rw [if_pos h1, if_pos (by omega)]
  · rw [if_neg h1, he]
    unfold eLater
    by_cases h2 : t - m < d
    · rw [if_pos h2, if_pos (by omega)]
    · rw [if_neg h2, if_neg (by omega), show t - (d + m) = t - m - d by omega]

end Go.Proofs.Ytladmpoopfabdaa

namespace Go.Proofs.Ytladmpoopfabdaa

theorem can_of_inf {E : Nat → Option Int} (hu : ∀ t, E t = none → E (t + 1) = none) (hex : E 399 = none) (hb : ∀ t x, t ≤ 399 → E t = some x → 0 ≤ x ∧ x ≤ 1073741824) (hm : ∀ t x y, E t = some x → E (t + 1) = some y → x ≤ y) : ECan E := by
  obtain ⟨i, hi, hl⟩ := least_ex (P := fun t => E t = none) ⟨399, hex⟩
  have hi9 : i ≤ 399 := Nat.le_of_not_lt fun h => hl 399 h hex
  have hs : ∀ t, t < i → E t = some (encF E t) := fun t ht => by
    unfold encF
    cases h : E t with
    | none => exact absurd h (hl t ht)
    | some x => rfl
  refine can_inf (F := encF E) hi9 hs (fun t ht => ?_) (fun t ht => hb t _ (by omega) (hs t ht)) (fun t ht => hm t _ _ (hs t (by omega)) (hs (t + 1) ht))
  rw [show t = i + (t - i) by omega]
  exact stays hu hi _

section
variable {zs ys : List Int} {p q most : Nat} {inc jnc : Int}

theorem eC_mono (g : Good zs p inc) {t : Nat} {x y : Int} (h : eC zs p inc t = some x) (k : eC zs p inc (t + 1) = some y) : x ≤ y := by
  have h1 := (eC_bd g h).2.2
  have h2 := (eC_bd g k).2.2
  have := g.step t
  omega

/-- Of a curve that was drawn the values up to tick 399 are small. -/
theorem drawn_bd (o : OkCur most zs p inc) {t : Nat} {x : Int} (ht : t ≤ 399) (h : eC zs p inc t = some x) : 0 ≤ x ∧ x ≤ 10000 := by
  have hb := eC_bd o.good h
  by_cases hi : InfC zs
  · rcases eC_inf o.good hi t with h1 | ⟨y, h1, h2, h3, h4⟩
    · rw [h1] at h; cases h
    · rw [h1] at h; cases h
      refine ⟨h3, ?_⟩
      have hlt : t < zs.length := Nat.lt_of_not_le fun hle => by rw [eC_late o.good hi (by omega)] at h1; cases h1
      rcases o.val t hlt with h5 | h5
      · rw [atC_lt hlt] at h2; omega
      · rw [atC_lt hlt, h5] at h2; unfold infV at h2; omega
  · have := o.slow hi t
    rw [hb.2.2] at this
    omega

theorem sum_can (o : OkCur most zs p inc) (k : OkCur most ys q jnc) (hm : most ≤ 9) : ECan (eSum zs p inc ys q jnc) := by
  have g := o.good; have h := k.good
  have e399 : ∀ {zs : List Int} {p : Nat} {inc : Int}, Good zs p inc → InfC zs → eC zs p inc 399 = none := fun g hi => eC_400 g hi (Nat.le_refl _)
  have hbd : ∀ t x, t ≤ 399 → eSum zs p inc ys q jnc t = some x → 0 ≤ x ∧ x ≤ 1073741824 := fun t x ht hx => by
    obtain ⟨y, z, h1, h2, rfl⟩ := both_some hx
    have := drawn_bd o ht h1
    have := drawn_bd k ht h2
    omega
  have hmo : ∀ t x y, eSum zs p inc ys q jnc t = some x → eSum zs p inc ys q jnc (t + 1) = some y → x ≤ y := fun t x y hx hy => by
    obtain ⟨x1, x2, h1, h2, rfl⟩ := both_some hx
    obtain ⟨y1, y2, k1, k2, rfl⟩ := both_some hy
    have := eC_mono g h1 k1
    have := eC_mono h h2 k2
    omega
  by_cases hi : InfC zs
  · exact can_of_inf (sum_up g h) (by unfold eSum; rw [e399 g hi, oadd_none_l]) hbd hmo
  by_cases hj : InfC ys
  · exact can_of_inf (sum_up g h) (by unfold eSum; rw [e399 h hj, oadd_none_r]) hbd hmo
  have a1 := g.p1; have a2 := h.p1; have a3 := o.p8; have a4 := k.p8; have a5 := o.few; have a6 := k.few
  have b1 := o.inc; have b2 := k.inc; have b3 := g.i0; have b4 := h.i0
  have hpq : p * q ≤ 8 * 8 := Nat.mul_le_mul a3 a4
  have hpq1 : 1 ≤ p * q := Nat.mul_pos (by omega) (by omega)
  have ha : Per (atC zs p inc) 16 (p * q) ((q : Int) * inc) := by
    have := (g.per hi).mul q
    rw [Nat.mul_comm] at this
    exact this.mono (by omega)
  have hb : Per (atC ys q jnc) 16 (p * q) ((p : Int) * jnc) := ((h.per hj).mul p).mono (by omega)
  have hc1 : (q : Int) * inc ≤ 8 * 1000 := Int.mul_le_mul (by omega) b1 b3 (by omega)
  have hc2 : (p : Int) * jnc ≤ 8 * 1000 := Int.mul_le_mul (by omega) b2 b4 (by omega)
  refine can_fin (F := fun t => atC zs p inc t + atC ys q jnc t) (s := 16) (p := p * q) (c := (q : Int) * inc + (p : Int) * jnc) (fun t => by unfold eSum; rw [eC_fin hi, eC_fin hj]; rfl) (fun t ht => ?_) hpq1 (by omega) (by omega) ?_ (fun t _ => ?_) ?_ (by omega)
  · show atC zs p inc (t + p * q) + atC ys q jnc (t + p * q) = atC zs p inc t + atC ys q jnc t + _
    rw [ha t ht, hb t ht]; omega
  · show 0 ≤ atC zs p inc 0 + atC ys q jnc 0
    have := (g.bd hi 0).1; have := (h.bd hj 0).1; omega
  · show atC zs p inc t + atC ys q jnc t ≤ atC zs p inc (t + 1) + atC ys q jnc (t + 1)
    have := g.step t; have := h.step t; omega
  · show atC zs p inc (16 + p * q - 1) + atC ys q jnc (16 + p * q - 1) ≤ 1073741824
    have := o.slow hi (16 + p * q - 1); have := k.slow hj (16 + p * q - 1); omega

end

end Go.Proofs.Ytladmpoopfabdaa

namespace Go.Proofs.Ytladmpoopfabdaa

section
variable {zs ys : List Int} {p q most : Nat} {inc jnc k : Int}

/-- A multiple of a curve with small values is a curve. -/
theorem mul_can (g : Good zs p inc) (hb : ∀ t x, t ≤ 400 → eC zs p inc t = some x → x ≤ 100000) (h1 : 1 ≤ k) (h9 : k ≤ 9) : ECan (eScale k zs p inc) := by
  have a1 := g.p1; have a3 := g.p3; have a4 := g.few; have a5 := g.p2
  have hmul : ∀ x : Int, 0 ≤ x → x ≤ 100000 → 0 ≤ k * x ∧ k * x ≤ 900000 := fun x h h' => by
    refine ⟨Int.mul_nonneg (by omega) h, ?_⟩
    have : k * x ≤ 9 * 100000 := Int.mul_le_mul h9 h' h (by omega)
    omega
  have hle : ∀ x y : Int, x ≤ y → k * x ≤ k * y := fun x y h => Int.mul_le_mul_of_nonneg_left h (by omega)
  by_cases hi : InfC zs
  · refine can_of_inf (fun t h => ?_) (by unfold eScale; rw [eC_400 g hi (Nat.le_refl _)]; rfl) (fun t x ht hx => ?_) (fun t x y hx hy => ?_)
    · unfold eScale at *
      cases h4 : eC zs p inc t with
      | none => rw [eC_up g h4]; rfl
      | some x => rw [h4] at h; cases h
    · unfold eScale at hx
      cases h4 : eC zs p inc t with
      | none => rw [h4] at hx; cases hx
      | some y =>
        rw [h4] at hx; cases hx
        have := hmul y (eC_bd g h4).1 (hb t y (by omega) h4)
        show 0 ≤ k * y ∧ k * y ≤ 1073741824
        omega
    · unfold eScale at hx hy
      cases h4 : eC zs p inc t with
      | none => rw [h4] at hx; cases hx
      | some u =>
        cases h5 : eC zs p inc (t + 1) with
        | none => rw [h5] at hy; cases hy
        | some v =>
          rw [h4] at hx; cases hx; rw [h5] at hy; cases hy
          exact hle u v (eC_mono g h4 h5)
  · have hv : ∀ t, t ≤ 400 → 0 ≤ atC zs p inc t ∧ atC zs p inc t ≤ 100000 := fun t ht => ⟨(g.bd hi t).1, hb t _ ht (eC_fin hi p inc t)⟩
    have hinc : inc ≤ 100000 := by
      have e := g.per hi (zs.length - p) (Nat.le_refl _)
      rw [show zs.length - p + p = zs.length by omega] at e
      have := hv zs.length (by omega)
      have := hv (zs.length - p) (by omega)
      omega
    refine can_fin (F := fun t => k * atC zs p inc t) (s := zs.length - p) (p := p) (c := k * inc) (fun t => by unfold eScale; rw [eC_fin hi]; rfl) (fun t ht => ?_) a1 a5 (by omega) (hmul _ (hv 0 (by omega)).1 (hv 0 (by omega)).2).1 (fun t _ => hle _ _ (g.step t)) ?_ ?_
    · show k * atC zs p inc (t + p) = k * atC zs p inc t + k * inc
      rw [g.per hi t ht, Int.mul_add]
    · have := hmul _ (hv (zs.length - p + p - 1) (by omega)).1 (hv (zs.length - p + p - 1) (by omega)).2
      show k * atC zs p inc (zs.length - p + p - 1) ≤ 1073741824
      omega
    · have := hmul inc g.i0 hinc
      omega

theorem drawn_400 (o : OkCur most zs p inc) {t : Nat} {x : Int} (ht : t ≤ 400) (h : eC zs p inc t = some x) : 0 ≤ x ∧ x ≤ 10000 := by
  by_cases h9 : t ≤ 399
  · exact drawn_bd o h9 h
  · by_cases hi : InfC zs
    · rw [eC_400 o.good hi (by omega)] at h; cases h
    · have := o.slow hi t
      have hb := eC_bd o.good h
      rw [hb.2.2] at this
      omega

theorem scale_can (o : OkCur most zs p inc) (h1 : 1 ≤ k) (h9 : k ≤ 9) : ECan (eScale k zs p inc) :=
  mul_can o.good (fun _ _ ht h => by have := drawn_400 o ht h; omega) h1 h9

theorem omap_none {f : Int → Int} : omap f none = none := rfl

/-- The sum of the multiples is the multiple of the sum. -/
theorem sum_scale {za zb zx : List Int} {pa pb px : Nat} {ia ib ix : Int} (ha : ∀ t, eC za pa ia t = eScale k zs p inc t) (hb : ∀ t, eC zb pb ib t = eScale k ys q jnc t) (hx : ∀ t, eC zx px ix t = eSum zs p inc ys q jnc t) : eSum za pa ia zb pb ib = eScale k zx px ix := by
  funext t
  unfold eSum eScale
  rw [ha, hb, hx]
  unfold eScale eSum
  cases eC zs p inc t with
  | none => rw [omap_none, oadd_none_l, oadd_none_l]; rfl
  | some x =>
    cases eC ys q jnc t with
    | none => rfl
    | some y => show some (k * x + k * y) = some (k * (x + y)); rw [Int.mul_add]

theorem min_mul (h1 : 1 ≤ k) (x y : Int) : min (k * x) (k * y) = k * min x y := by
  rcases Int.le_total x y with h | h
  · have := Int.mul_le_mul_of_nonneg_left h (show 0 ≤ k by omega)
    rw [show min x y = x by omega]; omega
  · have := Int.mul_le_mul_of_nonneg_left h (show 0 ≤ k by omega)
    rw [show min x y = y by omega]; omega

theorem min_scale {za zb : List Int} {pa pb : Nat} {ia ib : Int} (h1 : 1 ≤ k) (ha : ∀ t, eC za pa ia t = eScale k zs p inc t) (hb : ∀ t, eC zb pb ib t = eScale k ys q jnc t) : eMin za pa ia zb pb ib = fun t => omap (fun x => k * x) (eMin zs p inc ys q jnc t) := by
  funext t
  unfold eMin
  rw [ha, hb]
  unfold eScale
  cases eC zs p inc t with
  | none => cases eC ys q jnc t <;> rfl
  | some x =>
    cases eC ys q jnc t with
    | none => rfl
    | some y => show some (min (k * x) (k * y)) = some (k * min x y); rw [min_mul h1]

theorem twice (zs : List Int) (p : Nat) (inc : Int) : eSum zs p inc zs p inc = eScale 2 zs p inc := by
  funext t
  unfold eSum eScale
  cases eC zs p inc t with
  | none => rfl
  | some x => show some (x + x) = some (2 * x); congr 1; omega

theorem min_bd (o : OkCur most zs p inc) (l : OkCur most ys q jnc) {t : Nat} {x : Int} (ht : t ≤ 400) (h : eMin zs p inc ys q jnc t = some x) : 0 ≤ x ∧ x ≤ 10000 := by
  unfold eMin at h
  cases h1 : eC zs p inc t with
  | none => rw [h1] at h; exact drawn_400 l ht h
  | some u =>
    have a := drawn_400 o ht h1
    cases h2 : eC ys q jnc t with
    | none => rw [h1, h2] at h; cases h; exact a
    | some v => have b := drawn_400 l ht h2; rw [h1, h2] at h; cases h; omega

/-- A curve's share of a multiple is a curve. -/
theorem min_can_iff (o : OkCur most zs p inc) (l : OkCur most ys q jnc) (h1 : 1 ≤ k) (h9 : k ≤ 9) : ECan (fun t => omap (fun x => k * x) (eMin zs p inc ys q jnc t)) ↔ ECan (eMin zs p inc ys q jnc) := by
  constructor
  · rintro ⟨vs, r, c, g, he⟩
    by_cases hb : InfC zs ∧ InfC ys
    · refine can_of_inf (min_up o.good l.good) (by unfold eMin; rw [eC_400 o.good hb.1 (Nat.le_refl _), eC_400 l.good hb.2 (Nat.le_refl _)]; rfl) (fun t x ht hx => by have := min_bd o l (by omega) hx; omega) (fun t x y hx hy => ?_)
      have e1 : eC vs r c t = some (k * x) := by rw [he]; show omap _ (eMin zs p inc ys q jnc t) = _; rw [hx]; rfl
      have e2 : eC vs r c (t + 1) = some (k * y) := by rw [he]; show omap _ (eMin zs p inc ys q jnc (t + 1)) = _; rw [hy]; rfl
      have := eC_mono g e1 e2
      exact Int.le_of_mul_le_mul_left this (by omega)
    · have hs : ∀ t, eMin zs p inc ys q jnc t = some (encF (eMin zs p inc ys q jnc) t) := fun t => by
        unfold encF
        cases h : eMin zs p inc ys q jnc t with
        | some x => rfl
        | none =>
          exfalso
          unfold eMin at h
          cases hz : eC zs p inc t with
          | some x => cases hy : eC ys q jnc t <;> (rw [hz, hy] at h; cases h)
          | none =>
            rw [hz] at h
            exact hb ⟨(eC_none.1 hz).1, (eC_none.1 h).1⟩
      have hv : ∀ t, atC vs r c t = k * encF (eMin zs p inc ys q jnc) t := fun t => by
        have e1 : eC vs r c t = some (k * encF (eMin zs p inc ys q jnc) t) := by rw [he]; show omap _ (eMin zs p inc ys q jnc t) = _; rw [hs]; rfl
        exact (eC_bd g e1).2.2
      generalize hF : encF (eMin zs p inc ys q jnc) = F at hs hv
      have hf : ¬ InfC vs := fun hi => by
        have := eC_400 g hi (Nat.le_refl 399)
        rw [he] at this
        replace this : omap (fun x => k * x) (eMin zs p inc ys q jnc 399) = none := this
        rw [hs] at this; cases this
      have g1 := g.p1; have g2 := g.p2; have g3 := g.p3; have g4 := g.few
      have hpos : ∀ t, 0 ≤ F t := fun t => by
        have := (g.bd hf t).1
        rw [hv] at this
        exact Int.nonneg_of_mul_nonneg_right this (by omega)
      have hkle : ∀ x : Int, 0 ≤ x → x ≤ k * x := fun x hx => by
        have : 1 * x ≤ k * x := Int.mul_le_mul_of_nonneg_right h1 hx
        omega
      have hper : Per F (vs.length - r) r (F (vs.length - r + r) - F (vs.length - r)) := fun t ht => by
        have e1 := g.per hf t ht
        have e2 := g.per hf (vs.length - r) (Nat.le_refl _)
        rw [hv, hv] at e1 e2
        have e3 : k * (F (t + r) - F t) = k * (F (vs.length - r + r) - F (vs.length - r)) := by rw [Int.mul_sub, Int.mul_sub]; omega
        have := Int.eq_of_mul_eq_mul_left (by omega) e3
        omega
      have hmono : ∀ t, F t ≤ F (t + 1) := fun t => by
        have := g.step t
        rw [hv, hv] at this
        exact Int.le_of_mul_le_mul_left this (by omega)
      refine can_fin hs hper g1 g2 (by omega) (hpos 0) (fun t _ => hmono t) ?_ ?_
      · have e := g.small hf (show vs.length - r + r - 1 < vs.length by omega)
        rw [← atC_lt (p := r) (inc := c) (by omega), hv] at e
        have := hkle _ (hpos (vs.length - r + r - 1))
        omega
      · have e2 := g.per hf (vs.length - r) (Nat.le_refl _)
        rw [hv, hv] at e2
        have e3 : k * (F (vs.length - r + r) - F (vs.length - r)) = c := by rw [Int.mul_sub]; omega
        have hn : 0 ≤ F (vs.length - r + r) - F (vs.length - r) := by
          have hi0 := g.i0
          rw [← e3] at hi0
          exact Int.nonneg_of_mul_nonneg_right hi0 (by omega)
        have := hkle _ hn
        have := g.i1
        omega
  · rintro ⟨vs, r, c, g, he⟩
    have := mul_can (k := k) g (fun t x ht hx => by rw [he] at hx; have := min_bd o l ht hx; omega) h1 h9
    obtain ⟨us, d, e, g2, h2⟩ := this
    exact ⟨us, d, e, g2, fun t => by rw [h2]; unfold eScale; rw [he]⟩
end

end Go.Proofs.Ytladmpoopfabdaa

namespace Go.Proofs.Ytladmpoopfabdaa

/-- At most, where none is the greatest. -/
def ole (a b : Option Int) : Prop := ∀ y, b = some y → ∃ x, a = some x ∧ x ≤ y

theorem ole_refl (a : Option Int) : ole a a := fun y h => ⟨y, h, Int.le_refl _⟩
theorem ole_none (a : Option Int) : ole a none := fun y h => by cases h
theorem ole_some {x y : Int} (h : x ≤ y) : ole (some x) (some y) := fun z hz => by cases hz; exact ⟨x, rfl, h⟩
theorem ole_trans {a b c : Option Int} (h : ole a b) (k : ole b c) : ole a c := fun z hz => by
  obtain ⟨y, hy, h1⟩ := k z hz
  obtain ⟨x, hx, h2⟩ := h y hy
  exact ⟨x, hx, by omega⟩
theorem ole_omin_l (a b : Option Int) : ole (omin a b) a := fun y hy => by
  subst hy
  cases b with
  | none => exact ⟨y, rfl, Int.le_refl _⟩
  | some z => exact ⟨min y z, rfl, by omega⟩
theorem ole_omin_r (a b : Option Int) : ole (omin a b) b := fun y hy => by
  subst hy
  cases a with
  | none => exact ⟨y, rfl, Int.le_refl _⟩
  | some z => exact ⟨min z y, rfl, by omega⟩
theorem ole_omax_l (a b : Option Int) : ole a (omax a b) := fun y hy => by
  obtain ⟨u, v, rfl, rfl, rfl⟩ := both_some_max hy
  exact ⟨u, rfl, by omega⟩
theorem ole_omax_r (a b : Option Int) : ole b (omax a b) := fun y hy => by
  obtain ⟨u, v, rfl, rfl, rfl⟩ := both_some_max hy
  exact ⟨v, rfl, by omega⟩
theorem ole_omin {a b c d : Option Int} (h : ole a b) (k : ole c d) : ole (omin a c) (omin b d) := fun y hy => by
  cases b with
  | none =>
    cases d with
    | none => cases hy
    | some v =>
      cases hy
      obtain ⟨x, rfl, hx⟩ := k y rfl
      cases a with
      | none => exact ⟨x, rfl, hx⟩
      | some u => exact ⟨min u x, rfl, by omega⟩
  | some u =>
    obtain ⟨x, rfl, hx⟩ := h u rfl
    cases d with
    | none =>
      cases hy
      cases c with
      | none => exact ⟨x, rfl, hx⟩
      | some z => exact ⟨min x z, rfl, by omega⟩
    | some v =>
      cases hy
      obtain ⟨z, rfl, hz⟩ := k v rfl
      exact ⟨min x z, rfl, by omega⟩
theorem ole_oadd {a b : Option Int} (hb : ∀ y, b = some y → 0 ≤ y) : ole a (oadd a b) := fun y hy => by
  obtain ⟨u, v, rfl, rfl, rfl⟩ := both_some hy
  have := hb v rfl
  exact ⟨u, rfl, by omega⟩
theorem ole_omap {f : Int → Int} (hf : ∀ x y, x ≤ y → f x ≤ f y) {a b : Option Int} (h : ole a b) : ole (omap f a) (omap f b) := fun y hy => by
  cases b with
  | none => cases hy
  | some u =>
    cases hy
    obtain ⟨x, rfl, hx⟩ := h u rfl
    exact ⟨f x, rfl, hf x u hx⟩

/-- Of two curves whose values are so the first is at most the second at every tick. -/
theorem excP_of {zs ys : List Int} {p q : Nat} {inc jnc : Int} (h : ∀ t, ole (eC zs p inc t) (eC ys q jnc t)) : ExcP (dC zs p inc ys q jnc) 0 false := by
  refine .inr ⟨rfl, rfl, fun t => ?_⟩
  cases h2 : eC ys q jnc t with
  | none =>
    have k2 := eC_none.1 h2
    unfold dC
    by_cases h1 : InfC zs ∧ atC zs p inc t = infV
    · rw [if_pos h1, if_pos k2]; omega
    · rw [if_neg h1, if_pos k2]; omega
  | some y =>
    obtain ⟨x, h1, hle⟩ := h t y h2
    have k1 : ¬ (InfC zs ∧ atC zs p inc t = infV) := fun hx => by rw [eC_none.2 hx] at h1; cases h1
    have k2 : ¬ (InfC ys ∧ atC ys q jnc t = infV) := fun hx => by rw [eC_none.2 hx] at h2; cases h2
    have e1 : atC zs p inc t = x := by rw [← enc_eC, h1]; rfl
    have e2 : atC ys q jnc t = y := by rw [← enc_eC, h2]; rfl
    unfold dC
    rw [if_neg k1, if_neg k2, e1, e2]; omega

end Go.Proofs.Ytladmpoopfabdaa

namespace Go.Proofs.Ytladmpoopfabdaa

section
variable {zs : List Int} {p : Nat} {inc : Int}

/-- Short and small. -/
structure Mild (zs : List Int) (p : Nat) (inc : Int) : Prop where
  good : Good zs p inc
  len : zs.length ≤ 100
  bd : ∀ t x, t ≤ 400 → eC zs p inc t = some x → x ≤ 100000

theorem Mild.at (m : Mild zs p inc) (hf : ¬ InfC zs) {t : Nat} (ht : t ≤ 400) : 0 ≤ atC zs p inc t ∧ atC zs p inc t ≤ 100000 := ⟨(m.good.bd hf t).1, m.bd t _ ht (eC_fin hf p inc t)⟩

theorem mild_later (m : Mild zs p inc) {d : Nat} (hd : d ≤ 100) : ECan (eLater d zs p inc) := by
  have g := m.good
  have a1 := g.p1; have a2 := g.p3; have a3 := m.len; have a4 := g.p2
  by_cases hi : InfC zs
  · refine can_of_inf (fun t h => ?_) ?_ (fun t x ht hx => ?_) (fun t x y hx hy => ?_)
    · unfold eLater at *
      by_cases hlt : t < d
      · rw [if_pos hlt] at h; cases h
      · rw [if_neg hlt] at h; rw [if_neg (by omega), show t + 1 - d = t - d + 1 by omega]; exact eC_up g h
    · unfold eLater; rw [if_neg (by omega)]; exact eC_late g hi (by omega)
    · unfold eLater at hx
      by_cases hlt : t < d
      · rw [if_pos hlt] at hx; cases hx; omega
      · rw [if_neg hlt] at hx; have := m.bd _ _ (by omega) hx; have := (eC_bd g hx).1; omega
    · unfold eLater at hx hy
      by_cases h1 : t + 1 < d
      · rw [if_pos (by omega)] at hx; rw [if_pos h1] at hy; cases hx; cases hy; omega
      · rw [if_neg h1] at hy
        by_cases h2 : t < d
        · rw [if_pos h2] at hx; cases hx; exact (eC_bd g hy).1
        · rw [if_neg h2] at hx; rw [show t + 1 - d = t - d + 1 by omega] at hy; exact eC_mono g hx hy
  · refine can_fin (F := fun t => if t < d then 0 else atC zs p inc (t - d)) (s := zs.length - p + d) (p := p) (c := inc) (fun t => ?_) (fun t ht => ?_) a1 a4 (by omega) ?_ (fun t ht => ?_) ?_ g.i1
    · unfold eLater
      by_cases ht : t < d
      · rw [if_pos ht, if_pos ht]
      · rw [if_neg ht, if_neg ht, eC_fin hi]
    · show (if t + p < d then 0 else atC zs p inc (t + p - d)) = (if t < d then 0 else atC zs p inc (t - d)) + inc
      rw [if_neg (by omega), if_neg (by omega), show t + p - d = t - d + p by omega, g.per hi (t - d) (by omega)]
    · show (0 : Int) ≤ if 0 < d then 0 else atC zs p inc (0 - d)
      split
      · omega
      · exact (g.bd hi _).1
    · show (if t < d then 0 else atC zs p inc (t - d)) ≤ if t + 1 < d then 0 else atC zs p inc (t + 1 - d)
      by_cases h1 : t + 1 < d
      · rw [if_pos (by omega), if_pos h1]; omega
      · rw [if_neg h1]
        by_cases h2 : t < d
        · rw [if_pos h2]; exact (g.bd hi _).1
        · rw [if_neg h2, show t + 1 - d = t - d + 1 by omega]; exact g.step _
    · show (if zs.length - p + d + p - 1 < d then 0 else atC zs p inc (zs.length - p + d + p - 1 - d)) ≤ 1073741824
      rw [if_neg (by omega)]
      have := m.at hi (t := zs.length - p + d + p - 1 - d) (by omega)
      omega

theorem mild_ahead (m : Mild zs p inc) {d : Nat} (hd : d ≤ 100) : ECan (eAhead d zs p inc) := by
  have g := m.good
  have a1 := g.p1; have a2 := g.p3; have a3 := m.len; have a4 := g.p2
  by_cases hi : InfC zs
  · refine can_of_inf (fun t h => ?_) ?_ (fun t x ht hx => ?_) (fun t x y hx hy => ?_)
    · unfold eAhead at *
      by_cases hlt : t = 0
      · rw [if_pos hlt] at h; cases h
      · rw [if_neg hlt] at h; rw [if_neg (by omega), show t + 1 + d = t + d + 1 by omega]; exact eC_up g h
    · unfold eAhead; rw [if_neg (by omega)]; exact eC_late g hi (by omega)
    · unfold eAhead at hx
      by_cases hlt : t = 0
      · rw [if_pos hlt] at hx; cases hx; omega
      · rw [if_neg hlt] at hx
        by_cases h4 : t + d ≤ 400
        · have := m.bd _ _ h4 hx; have := (eC_bd g hx).1; omega
        · rw [eC_late g hi (by omega)] at hx; cases hx
    · unfold eAhead at hx hy
      rw [if_neg (by omega)] at hy
      by_cases h2 : t = 0
      · rw [if_pos h2] at hx; cases hx; exact (eC_bd g hy).1
      · rw [if_neg h2] at hx; rw [show t + 1 + d = t + d + 1 by omega] at hy; exact eC_mono g hx hy
  · refine can_fin (F := fun t => if t = 0 then 0 else atC zs p inc (t + d)) (s := zs.length - p + 1) (p := p) (c := inc) (fun t => ?_) (fun t ht => ?_) a1 a4 (by omega) ?_ (fun t ht => ?_) ?_ g.i1
    · unfold eAhead
      by_cases ht : t = 0
      · rw [if_pos ht, if_pos ht]
      · rw [if_neg ht, if_neg ht, eC_fin hi]
    · show (if t + p = 0 then 0 else atC zs p inc (t + p + d)) = (if t = 0 then 0 else atC zs p inc (t + d)) + inc
      rw [if_neg (by omega), if_neg (by omega), show t + p + d = t + d + p by omega, g.per hi (t + d) (by omega)]
    · show (0 : Int) ≤ if 0 = 0 then 0 else _
      rw [if_pos rfl]; omega
    · show (if t = 0 then 0 else atC zs p inc (t + d)) ≤ if t + 1 = 0 then 0 else atC zs p inc (t + 1 + d)
      rw [if_neg (show ¬ t + 1 = 0 by omega)]
      split
      · exact (g.bd hi _).1
      · rw [show t + 1 + d = t + d + 1 by omega]; exact g.step _
    · show (if zs.length - p + 1 + p - 1 = 0 then 0 else atC zs p inc (zs.length - p + 1 + p - 1 + d)) ≤ 1073741824
      rw [if_neg (by omega)]
      have := m.at hi (t := zs.length - p + 1 + p - 1 + d) (by omega)
      omega

theorem mild_lower (m : Mild zs p inc) {c : Int} (h0 : 0 ≤ c) (hc : c ≤ 20) (hl : ¬ InfC zs → inc = 0 ∨ ∀ t, 250 ≤ t → 20 ≤ atC zs p inc t) : ECan (eLower c zs p inc) := by
  have g := m.good
  have a1 := g.p1; have a2 := g.p3; have a3 := m.len; have a4 := g.p2
  by_cases hi : InfC zs
  · refine can_of_inf (fun t h => ?_) ?_ (fun t x ht hx => ?_) (fun t x y hx hy => ?_)
    · unfold eLower at *
      cases h4 : eC zs p inc t with
      | none => rw [eC_up g h4]; rfl
      | some x => rw [h4] at h; cases h
    · unfold eLower; rw [eC_late g hi (by omega)]; rfl
    · unfold eLower at hx
      cases h4 : eC zs p inc t with
      | none => rw [h4] at hx; cases hx
      | some y =>
        rw [h4] at hx; cases hx
        have := m.bd t y (by omega) h4
        show 0 ≤ max (y - c) 0 ∧ max (y - c) 0 ≤ 1073741824
        omega
    · unfold eLower at hx hy
      cases h4 : eC zs p inc t with
      | none => rw [h4] at hx; cases hx
      | some u =>
        cases h5 : eC zs p inc (t + 1) with
        | none => rw [h5] at hy; cases hy
        | some v =>
          rw [h4] at hx; cases hx; rw [h5] at hy; cases hy
          have := eC_mono g h4 h5
          show max (u - c) 0 ≤ max (v - c) 0
          omega
  · have hE : ∀ t, eLower c zs p inc t = some (max (atC zs p inc t - c) 0) := fun t => by unfold eLower; rw [eC_fin hi]; rfl
    have hmo : ∀ t, max (atC zs p inc t - c) 0 ≤ max (atC zs p inc (t + 1) - c) 0 := fun t => by have := g.step t; omega
    have hz : 0 ≤ max (atC zs p inc 0 - c) 0 := by omega
    rcases hl hi with h | h
    · subst h
      refine can_fin (F := fun t => max (atC zs p 0 t - c) 0) (s := zs.length - p) (p := p) (c := 0) hE (fun t ht => ?_) a1 a4 (by omega) hz (fun t _ => hmo t) ?_ (by omega)
      · have := g.per hi t ht
        show max (atC zs p 0 (t + p) - c) 0 = max (atC zs p 0 t - c) 0 + 0
        omega
      · have := m.at hi (t := zs.length - p + p - 1) (by omega)
        show max (atC zs p 0 (zs.length - p + p - 1) - c) 0 ≤ 1073741824
        omega
    · refine can_fin (F := fun t => max (atC zs p inc t - c) 0) (s := 250) (p := p) (c := inc) hE (fun t ht => ?_) a1 a4 (by omega) hz (fun t _ => hmo t) ?_ g.i1
      · have e := g.per hi t (by omega)
        have := h t ht
        have := h (t + p) (by omega)
        show max (atC zs p inc (t + p) - c) 0 = max (atC zs p inc t - c) 0 + inc
        omega
      · have := m.at hi (t := 250 + p - 1) (by omega)
        show max (atC zs p inc (250 + p - 1) - c) 0 ≤ 1073741824
        omega
end

end Go.Proofs.Ytladmpoopfabdaa

namespace Go.Proofs.Ytladmpoopfabdaa

/-- From tick 16 on periodic by 24 ticks (or infinite), not decreasing, small up to tick 400. -/
structure Nice (K : Int) (E : Nat → Option Int) : Prop where
  up : ∀ t, E t = none → E (t + 1) = none
  mono : ∀ t x y, E t = some x → E (t + 1) = some y → x ≤ y
  bd : ∀ t x, t ≤ 400 → E t = some x → 0 ≤ x ∧ x ≤ K
  tail : (∀ t, 16 ≤ t → E t = none) ∨ ((∀ t, E t = some (encF E t)) ∧ ∃ c, Per (encF E) 16 24 c)

theorem encF_some {E : Nat → Option Int} {t : Nat} {x : Int} (h : E t = some x) : encF E t = x := by unfold encF; rw [h]; rfl
theorem encF_none {E : Nat → Option Int} {t : Nat} (h : E t = none) : encF E t = infV := by unfold encF; rw [h]; rfl

theorem per_none {E : Nat → Option Int} (h : ∀ t, 16 ≤ t → E t = none) : Per (encF E) 16 24 0 := fun t ht => by rw [encF_none (h t ht), encF_none (h (t + 24) (by omega))]; omega

theorem Nice.can {K : Int} {E : Nat → Option Int} (h : Nice K E) (hK : K ≤ 1000000000) : ECan E := by
  rcases h.tail with hn | ⟨hs, c, hp⟩
  · exact can_of_inf h.up (hn 399 (by omega)) (fun t x ht hx => by have := h.bd t x (by omega) hx; omega) h.mono
  · have b : ∀ t, t ≤ 400 → 0 ≤ encF E t ∧ encF E t ≤ K := fun t ht => h.bd t _ ht (hs t)
    refine can_fin hs hp (by omega) (by omega) (by omega) (b 0 (by omega)).1 (fun t _ => h.mono t _ _ (hs t) (hs (t + 1))) ?_ ?_
    · have := b (16 + 24 - 1) (by omega); omega
    · have e := hp 16 (by omega)
      have := b 16 (by omega)
      have := b (16 + 24) (by omega)
      omega

theorem Nice.per {K : Int} {E : Nat → Option Int} (h : Nice K E) : ∃ c, Per (encF E) 16 24 c := by
  rcases h.tail with hn | ⟨_, h⟩
  · exact ⟨0, fun t ht => by rw [encF_none (hn t ht), encF_none (hn (t + 24) (by omega))]; omega⟩
  · exact h

/-- The normal form of such a function is short, and its period divides 24. -/
theorem Nice.short {K : Int} {E : Nat → Option Int} (h : Nice K E) {zs : List Int} {p : Nat} {inc : Int} (f : EForm zs p inc E) : zs.length ≤ 40 ∧ 24 % p = 0 ∧ p ≤ 24 := by
  obtain ⟨c, hp⟩ := h.per
  obtain ⟨_, _, s, hs, hn⟩ := f.form
  have a1 := hn.start_le hp (by omega)
  have a2 := hn.per_le hp (by omega)
  have a3 := (hn.divides hp).1
  exact ⟨by omega, a3, a2⟩

theorem Nice.mild {K : Int} {E : Nat → Option Int} (h : Nice K E) (hK : K ≤ 100000) {zs : List Int} {p : Nat} {inc : Int} (f : EForm zs p inc E) : Mild zs p inc := by
  have hs := h.short f
  refine ⟨f.1, by omega, fun t x ht hx => ?_⟩
  rw [f.2.1 t] at hx
  have := h.bd t x ht hx
  omega

/-- A curve's values are so, if its period divides 24 and it is short. -/
theorem nice_of {K : Int} {zs : List Int} {p : Nat} {inc : Int} (g : Good zs p inc) (hl : zs.length ≤ 16) (hd : 24 % p = 0) (hb : ∀ t x, t ≤ 400 → eC zs p inc t = some x → x ≤ K) : Nice K (eC zs p inc) := by
  refine ⟨fun t => eC_up g, fun t x y => eC_mono g, fun t x ht hx => ⟨(eC_bd g hx).1, hb t x ht hx⟩, ?_⟩
  by_cases hi : InfC zs
  · exact .inl fun t ht => eC_late g hi (by omega)
  · refine .inr ⟨fun t => ?_, ((24 / p : Nat) : Int) * inc, ?_⟩
    · rw [encF_some (eC_fin hi p inc t)]; exact eC_fin hi p inc t
    · have e : encF (eC zs p inc) = atC zs p inc := funext fun t => encF_some (eC_fin hi p inc t)
      rw [e]
      have h1 := (g.per hi).mul (24 / p)
      have h2 : 24 / p * p = 24 := by have := Nat.div_add_mod 24 p; rw [hd, Nat.mul_comm] at this; omega
      rw [h2] at h1
      exact h1.mono (by have := g.p1; omega)

theorem drawn_nice {most : Nat} {zs : List Int} {p : Nat} {inc : Int} (o : OkCur most zs p inc) (hm : most ≤ 9) : Nice 10000 (eC zs p inc) :=
  nice_of o.good (by have := o.few; omega) o.div fun _ _ ht hx => (drawn_400 o ht hx).2

theorem Nice.sum {K K' : Int} {E E' : Nat → Option Int} (h : Nice K E) (k : Nice K' E') : Nice (K + K') (fun t => oadd (E t) (E' t)) := by
  refine ⟨fun t hx => ?_, fun t x y hx hy => ?_, fun t x ht hx => ?_, ?_⟩
  · show oadd (E (t + 1)) (E' (t + 1)) = none
    replace hx : oadd (E t) (E' t) = none := hx
    cases h1 : E t with
    | none => rw [h.up t h1, oadd_none_l]
    | some u =>
      cases h2 : E' t with
      | none => rw [k.up t h2, oadd_none_r]
      | some v => rw [h1, h2] at hx; cases hx
  · obtain ⟨x1, x2, h1, h2, rfl⟩ := both_some hx
    obtain ⟨y1, y2, k1, k2, rfl⟩ := both_some hy
    have := h.mono t _ _ h1 k1
    have := k.mono t _ _ h2 k2
    omega
  · obtain ⟨x1, x2, h1, h2, rfl⟩ := both_some hx
    have := h.bd t _ ht h1
    have := k.bd t _ ht h2
    omega
  · rcases h.tail with hn | ⟨hs, c, hp⟩
    · exact .inl fun t ht => by show oadd (E t) (E' t) = none; rw [hn t ht, oadd_none_l]
    rcases k.tail with kn | ⟨ks, d, kp⟩
    · exact .inl fun t ht => by show oadd (E t) (E' t) = none; rw [kn t ht, oadd_none_r]
    have e : ∀ t, oadd (E t) (E' t) = some (encF E t + encF E' t) := fun t => by rw [hs t, ks t]; rfl
    have e2 : encF (fun t => oadd (E t) (E' t)) = fun t => encF E t + encF E' t := funext fun t => encF_some (e t)
    refine .inr ⟨fun t => by rw [e2]; exact e t, c + d, fun t ht => ?_⟩
    rw [e2]
    have := hp t ht
    have := kp t ht
    show encF E (t + 24) + encF E' (t + 24) = encF E t + encF E' t + (c + d)
    omega

/-- What is the curve of such a function has such values. -/
theorem Nice.of {K : Int} {E : Nat → Option Int} (h : Nice K E) {zs : List Int} {p : Nat} {inc : Int} (he : ∀ t, eC zs p inc t = E t) : Nice K (eC zs p inc) := by
  rw [show eC zs p inc = E from funext he]; exact h

theorem Nice.le {K K' : Int} {E : Nat → Option Int} (h : Nice K E) (hK : K ≤ K') : Nice K' E := ⟨h.up, h.mono, fun t x ht hx => by have := h.bd t x ht hx; omega, h.tail⟩

/-- The normal form's period divides 24 if from some tick on 24 is a period. -/
theorem NormC.div24 {zs zs' : List Int} {p p' : Nat} {inc inc' : Int} (g : Good zs p inc) (h : NormC zs p inc zs' p' inc') {s : Nat} {c : Int} (hp : Per (encF (eC zs p inc)) s 24 c) : 24 % p' = 0 := by
  obtain ⟨_, _, _, _, hn⟩ := (h.eform g).form
  exact (hn.divides hp).1

/-- The least common multiple of two divisors of 24 is one. -/
theorem lcm24 {a b : Nat} (ha : 24 % a = 0) (hb : 24 % b = 0) : 24 % (a / Nat.gcd a b * b) = 0 := by
  have e : a / Nat.gcd a b * b = Nat.lcm a b := by
    rw [Nat.lcm, Nat.mul_div_right_comm (Nat.gcd_dvd_left a b)]
  rw [e]
  exact Nat.mod_eq_zero_of_dvd (Nat.lcm_dvd (Nat.dvd_of_mod_eq_zero ha) (Nat.dvd_of_mod_eq_zero hb))

/-! ## The same from some tick on: minima and maxima -/

/-- In the end periodic by 24 ticks, and infinite or not. -/
def Day (E : Nat → Option Int) : Prop := ∃ s c, Per (encF E) s 24 c ∧ ((∀ t, s ≤ t → E t = none) ∨ ∀ t, s ≤ t → E t = some (encF E t))

theorem Day.per {E : Nat → Option Int} (h : Day E) : ∃ s c, Per (encF E) s 24 c := by obtain ⟨s, c, h, _⟩ := h; exact ⟨s, c, h⟩

theorem Nice.day {K : Int} {E : Nat → Option Int} (h : Nice K E) : Day E := by
  obtain ⟨c, hp⟩ := h.per
  rcases h.tail with hn | ⟨hs, _⟩
  · exact ⟨16, c, hp, .inl hn⟩
  · exact ⟨16, c, hp, .inr fun t _ => hs t⟩

theorem Day.of {E : Nat → Option Int} (h : Day E) {zs : List Int} {p : Nat} {inc : Int} (he : ∀ t, eC zs p inc t = E t) : Day (eC zs p inc) := by rw [show eC zs p inc = E from funext he]; exact h

theorem day_none {E : Nat → Option Int} {s : Nat} (h : ∀ t, s ≤ t → E t = none) : Day E :=
  ⟨s, 0, fun t ht => by rw [encF_none (h t ht), encF_none (h (t + 24) (by omega))]; omega, .inl h⟩

theorem day_some {E : Nat → Option Int} {F : Nat → Int} {s : Nat} {c : Int} (h : ∀ t, s ≤ t → E t = some (F t)) (hp : Per F s 24 c) : Day E :=
  ⟨s, c, fun t ht => by rw [encF_some (h t ht), encF_some (h (t + 24) (by omega))]; exact hp t ht, .inr fun t ht => by rw [encF_some (h t ht)]; exact h t ht⟩

theorem Day.min {E E' : Nat → Option Int} (h : Day E) (k : Day E') : Day (fun t => omin (E t) (E' t)) := by
  obtain ⟨s, c, hp, hn | hs⟩ := h
  · obtain ⟨s', c', kp, kn | ks⟩ := k
    · exact day_none (s := max s s') fun t ht => by show omin (E t) (E' t) = none; rw [hn t (by omega), kn t (by omega)]; rfl
    · exact day_some (s := max s s') (F := encF E') (fun t ht => by show omin (E t) (E' t) = _; rw [hn t (by omega), ks t (by omega)]; rfl) (kp.mono (by omega))
  · obtain ⟨s', c', kp, kn | ks⟩ := k
    · exact day_some (s := max s s') (F := encF E) (fun t ht => by show omin (E t) (E' t) = _; rw [hs t (by omega), kn t (by omega)]; rfl) (hp.mono (by omega))
    · obtain ⟨S, hS⟩ := min_late (hp.mono (show s ≤ s + s' by omega)) (kp.mono (show s' ≤ s + s' by omega)) (show 1 ≤ 24 by omega)
      exact day_some (s := s + s' + S) (F := minF (encF E) (encF E')) (fun t ht => by
        show omin (E t) (E' t) = some (Min.min (encF E t) (encF E' t))
        have e1 := hs t (by omega)
        have e2 := ks t (by omega)
        rw [e1, e2]; rfl) (hS.mono (by omega))

theorem Day.max {E E' : Nat → Option Int} (h : Day E) (k : Day E') : Day (fun t => omax (E t) (E' t)) := by
  obtain ⟨s, c, hp, hn | hs⟩ := h
  · exact day_none (s := s) fun t ht => by show omax (E t) (E' t) = none; rw [hn t (by omega), omax_none_l]
  · obtain ⟨s', c', kp, kn | ks⟩ := k
    · exact day_none (s := s') fun t ht => by show omax (E t) (E' t) = none; rw [kn t (by omega), omax_none_r]
    · obtain ⟨S, hS⟩ := max_late (hp.mono (show s ≤ s + s' by omega)) (kp.mono (show s' ≤ s + s' by omega)) (show 1 ≤ 24 by omega)
      exact day_some (s := s + s' + S) (F := maxF (encF E) (encF E')) (fun t ht => by
        show omax (E t) (E' t) = some (Max.max (encF E t) (encF E' t))
        have e1 := hs t (by omega)
        have e2 := ks t (by omega)
        rw [e1, e2]; rfl) (hS.mono (by omega))

theorem Day.sum {E E' : Nat → Option Int} (h : Day E) (k : Day E') : Day (fun t => oadd (E t) (E' t)) := by
  obtain ⟨s, c, hp, hn | hs⟩ := h
  · exact day_none (s := s) fun t ht => by show oadd (E t) (E' t) = none; rw [hn t ht, oadd_none_l]
  · obtain ⟨s', c', kp, kn | ks⟩ := k
    · exact day_none (s := s') fun t ht => by show oadd (E t) (E' t) = none; rw [kn t ht, oadd_none_r]
    · refine day_some (s := s + s') (F := fun t => encF E t + encF E' t) (c := c + c') (fun t ht => ?_) (fun t ht => ?_)
      · show oadd (E t) (E' t) = _
        have e1 := hs t (by omega)
        have e2 := ks t (by omega)
        rw [e1, e2]; rfl
      · have := hp t (by omega)
        have := kp t (by omega)
        show encF E (t + 24) + encF E' (t + 24) = encF E t + encF E' t + (c + c')
        omega

/-- The periods of the normal forms of two such curves have a multiple of at most 24. -/
theorem day_lcm {z1 z2 : List Int} {p1 p2 : Nat} {i1 i2 : Int} (g1 : Good z1 p1 i1) (g2 : Good z2 p2 i2) (h1 : Day (eC z1 p1 i1)) (h2 : Day (eC z2 p2 i2)) {y1 y2 : List Int} {q1 q2 : Nat} {j1 j2 : Int} (n1 : NormC z1 p1 i1 y1 q1 j1) (n2 : NormC z2 p2 i2 y2 q2 j2) : q1 / Nat.gcd q1 q2 * q2 ≤ 24 := by
  obtain ⟨s1, c1, k1⟩ := h1.per
  obtain ⟨s2, c2, k2⟩ := h2.per
  have a := n1.div24 g1 k1
  have b := n2.div24 g2 k2
  have := lcm24 a b
  exact Nat.le_of_dvd (by omega) (Nat.dvd_of_mod_eq_zero this)

/-! ## What a reduction needs -/

/-- Constant from tick 16 on, or at least 20 from tick 250 on. -/
def Low (E : Nat → Option Int) : Prop := Per (encF E) 16 24 0 ∨ ∀ t x, 250 ≤ t → E t = some x → 20 ≤ x

theorem drawn_low {most : Nat} {zs : List Int} {p : Nat} {inc : Int} (o : OkCur most zs p inc) (hm : most ≤ 9) : Low (eC zs p inc) := by
  have g := o.good
  have a1 := g.p1; have a2 := g.p3; have a3 := o.few; have a4 := o.p8; have a5 := g.i0
  by_cases hi : InfC zs
  · exact .inl fun t ht => by rw [encF_none (eC_late g hi (by omega)), encF_none (eC_late g hi (by omega))]; omega
  · by_cases h0 : inc = 0
    · subst h0
      have e : encF (eC zs p 0) = atC zs p 0 := funext fun t => encF_some (eC_fin hi p 0 t)
      refine .inl ?_
      rw [e]
      have h1 := (g.per hi).mul (24 / p)
      have h2 : 24 / p * p = 24 := by have := Nat.div_add_mod 24 p; rw [o.div, Nat.mul_comm] at this; omega
      rw [h2, Int.mul_zero] at h1
      exact h1.mono (by omega)
    · refine .inr fun t x ht hx => ?_
      rw [eC_fin hi] at hx; cases hx
      have h1 := ((g.per hi).mul 29) 16 (by omega)
      have h2 := g.up (t - (16 + 29 * p)) (16 + 29 * p)
      rw [show 16 + 29 * p + (t - (16 + 29 * p)) = t by omega] at h2
      have h3 := (g.bd hi 16).1
      have h4 : ((29 : Nat) : Int) * 1 ≤ ((29 : Nat) : Int) * inc := Int.mul_le_mul_of_nonneg_left (by omega) (by omega)
      omega

theorem drawn_low2 {most : Nat} {zs : List Int} {p : Nat} {inc : Int} (o : OkCur most zs p inc) (hm : most ≤ 9) (hi : ¬ InfC zs) : inc = 0 ∨ ∀ t, 250 ≤ t → 20 ≤ atC zs p inc t := by
  have g := o.good
  have a1 := g.p1; have a2 := g.p3; have a3 := o.few; have a4 := o.p8; have a5 := g.i0
  by_cases h0 : inc = 0
  · exact .inl h0
  · refine .inr fun t ht => ?_
    have h1 := ((g.per hi).mul 29) 16 (by omega)
    have h2 := g.up (t - (16 + 29 * p)) (16 + 29 * p)
    rw [show 16 + 29 * p + (t - (16 + 29 * p)) = t by omega] at h2
    have h3 := (g.bd hi 16).1
    have h4 : ((29 : Nat) : Int) * 1 ≤ ((29 : Nat) : Int) * inc := Int.mul_le_mul_of_nonneg_left (by omega) (by omega)
    omega

theorem Low.sum {K K' : Int} {E E' : Nat → Option Int} (h : Low E) (k : Low E') (n : Nice K E) (m : Nice K' E') (h0 : ∀ t x, E t = some x → 0 ≤ x) (k0 : ∀ t x, E' t = some x → 0 ≤ x) : Low (fun t => oadd (E t) (E' t)) := by
  rcases h with h | h
  · rcases k with k | k
    · rcases n.tail with nn | ⟨ns, _⟩
      · exact .inl (per_none fun t ht => by show oadd (E t) (E' t) = none; rw [nn t ht, oadd_none_l])
      rcases m.tail with mn | ⟨ms, _⟩
      · exact .inl (per_none fun t ht => by show oadd (E t) (E' t) = none; rw [mn t ht, oadd_none_r])
      have e : ∀ t, oadd (E t) (E' t) = some (encF E t + encF E' t) := fun t => by rw [ns t, ms t]; rfl
      have e2 : encF (fun t => oadd (E t) (E' t)) = fun t => encF E t + encF E' t := funext fun t => encF_some (e t)
      refine .inl fun t ht => ?_
      rw [e2]
      have := h t ht
      have := k t ht
      show encF E (t + 24) + encF E' (t + 24) = encF E t + encF E' t + 0
      omega
    · refine .inr fun t x ht hx => ?_
      obtain ⟨y, z, h1, h2, rfl⟩ := both_some hx
      have := h0 t y h1
      have := k t z ht h2
      omega
  · refine .inr fun t x ht hx => ?_
    obtain ⟨y, z, h1, h2, rfl⟩ := both_some hx
    have := k0 t z h2
    have := h t y ht h1
    omega

theorem Low.form {E : Nat → Option Int} (h : Low E) {zs : List Int} {p : Nat} {inc : Int} (f : EForm zs p inc E) (hf : ¬ InfC zs) : inc = 0 ∨ ∀ t, 250 ≤ t → 20 ≤ atC zs p inc t := by
  rcases h with h | h
  · obtain ⟨_, _, s, _, hn⟩ := f.form
    obtain ⟨h1, h2⟩ := hn.divides h
    have hp := hn.pos
    have h3 : p ≤ 24 := hn.per_le h (by omega)
    have h4 : 1 ≤ 24 / p := (Nat.one_le_div_iff (by omega)).2 h3
    rcases Int.mul_eq_zero.1 h2.symm with h5 | h5
    · omega
    · exact .inl h5
  · refine .inr fun t ht => h t _ ht ?_
    rw [← f.2.1 t, eC_fin hf]

/-! ## Greater curves have greater results -/

theorem ole_later {zs ys : List Int} {p q d : Nat} {inc jnc : Int} (h : ∀ t, ole (eC zs p inc t) (eC ys q jnc t)) (t : Nat) : ole (eLater d zs p inc t) (eLater d ys q jnc t) := by
  unfold eLater
  split
  · exact ole_refl _
  · exact h _
theorem ole_ahead {zs ys : List Int} {p q d : Nat} {inc jnc : Int} (h : ∀ t, ole (eC zs p inc t) (eC ys q jnc t)) (t : Nat) : ole (eAhead d zs p inc t) (eAhead d ys q jnc t) := by
  unfold eAhead
  split
  · exact ole_refl _
  · exact h _
theorem ole_lower {zs ys : List Int} {p q : Nat} {inc jnc c : Int} (h : ∀ t, ole (eC zs p inc t) (eC ys q jnc t)) (t : Nat) : ole (eLower c zs p inc t) (eLower c ys q jnc t) :=
  ole_omap (fun x y hxy => by omega) (h t)
theorem ole_more {zs ys xs : List Int} {p q r : Nat} {inc jnc knc : Int} (k : Good ys q jnc) (he : ∀ t, eC xs r knc t = eSum zs p inc ys q jnc t) (t : Nat) : ole (eC zs p inc t) (eC xs r knc t) := by
  rw [he]; exact ole_oadd fun y hy => (eC_bd k hy).1
/-- Two curves made so compare so. -/
theorem exc_of {E E' : Nat → Option Int} (h : ∀ t, ole (E t) (E' t)) {zs ys : List Int} {p q : Nat} {inc jnc : Int} (f : EForm zs p inc E) (k : EForm ys q jnc E') : ExcP (dC zs p inc ys q jnc) 0 false :=
  excP_of fun t => by rw [f.2.1 t, k.2.1 t]; exact h t

end Go.Proofs.Ytladmpoopfabdaa

namespace Go.Proofs.Ytladmpoopfabdaa

/-! ## Sums, minima and maxima distribute -/

theorem omin_comm (a b : Option Int) : omin a b = omin b a := by
  cases a <;> cases b <;> try rfl
  rename_i x y
  show some (min x y) = some (min y x)
  congr 1; omega
theorem oadd_omax (a b c : Option Int) : oadd a (omax b c) = omax (oadd a b) (oadd a c) := by
  cases a <;> cases b <;> cases c <;> try rfl
  rename_i x y z
  show some (x + max y z) = some (max (x + y) (x + z))
  congr 1; omega
theorem oadd_omin (a b c : Option Int) : oadd a (omin b c) = omin (oadd a b) (oadd a c) := by
  cases a <;> cases b <;> cases c <;> try rfl
  rename_i x y z
  show some (x + min y z) = some (min (x + y) (x + z))
  congr 1; omega
theorem omin_omax (a b c : Option Int) : omin a (omax b c) = omax (omin a b) (omin a c) := by
  cases a with
  | none => cases b <;> cases c <;> rfl
  | some x =>
    cases b with
    | none =>
      cases c with
      | none => show some x = some (max x x); congr 1; omega
      | some z => show some x = some (max x (min x z)); congr 1; omega
    | some y =>
      cases c with
      | none => show some x = some (max (min x y) x); congr 1; omega
      | some z => show some (min x (max y z)) = some (max (min x y) (min x z)); congr 1; omega
theorem oadd_comm (a b : Option Int) : oadd a b = oadd b a := by
  cases a <;> cases b <;> try rfl
  rename_i x y
  show some (x + y) = some (y + x)
  congr 1; omega
theorem oadd_assoc (a b c : Option Int) : oadd (oadd a b) c = oadd a (oadd b c) := by
  cases a <;> cases b <;> cases c <;> try rfl
  rename_i x y z
  show some (x + y + z) = some (x + (y + z))
  congr 1; omega

end Go.Proofs.Ytladmpoopfabdaa
