/- Multiples of curves: which there are, and that they distribute over sums and minima. Nothing here speaks of the program. By the verifier's side. -/
import Derived.Test.YtbaboncanplikaaPwY
namespace Go.Proofs.Ytbaboncanplikaa

section
variable {zs ys : List Int} {p q most : Nat} {inc jnc k : Int}

/-- A multiple of a curve with small values is a curve. -/
theorem mul_can (g : Good zs p inc) (hb : ∀ t x, t ≤ 400 → eC zs p inc t = some x → x ≤ 100000) (h1 : 1 ≤ k) (h9 : k ≤ 9) : ECan (eScale k zs p inc) := by
  have a1 := g.p1; have a3 := g.p3; have a4 := g.few; have a5 := g.p2
  have hmul : ∀ x : Int, 0 ≤ x → x ≤ 100000 → 0 ≤ k * x ∧ k * x ≤ 900000 := fun x h h' => by
    refine ⟨Int.mul_nonneg (by omega) h, ?_⟩
    have : k * x ≤ 9 * 100000 := Int.mul_le_mul h9 h' h (by omega)
    omega
  have hle : ∀ x y : Int, x ≤ y → k * x ≤ k * y := fun x y h => Int.mul_le_mul_of_nonneg_left h (by omega)
  by_cases hi : InfC zs
  · refine can_of_inf (fun t h => ?_) (by unfold eScale; rw [eC_400 g hi (Nat.le_refl _)]; rfl) (fun t x ht hx => ?_) (fun t x y hx hy => ?_)
    · unfold eScale at *
      cases h4 : eC zs p inc t with
      | none => rw [eC_up g h4]; rfl
      | some x => rw [h4] at h; cases h
    · unfold eScale at hx
      cases h4 : eC zs p inc t with
      | none => rw [h4] at hx; cases hx
      | some y =>
        rw [h4] at hx; cases hx
        have := hmul y (eC_bd g h4).1 (hb t y (by omega) h4)
        show 0 ≤ k * y ∧ k * y ≤ 1073741824
        omega
    · unfold eScale at hx hy
      cases h4 : eC zs p inc t with
      | none => rw [h4] at hx; cases hx
      | some u =>
        cases h5 : eC zs p inc (t + 1) with
        | none => rw [h5] at hy; cases hy
        | some v =>
          rw [h4] at hx; cases hx; rw [h5] at hy; cases hy
          exact hle u v (eC_mono g h4 h5)
  · have hv : ∀ t, t ≤ 400 → 0 ≤ atC zs p inc t ∧ atC zs p inc t ≤ 100000 := fun t ht => ⟨(g.bd hi t).1, hb t _ ht (eC_fin hi p inc t)⟩
    have hinc : inc ≤ 100000 := by
      have e := g.per hi (zs.length - p) (Nat.le_refl _)
      rw [show zs.length - p + p = zs.length by omega] at e
      have := hv zs.length (by omega)
      have := hv (zs.length - p) (by omega)
      omega
    refine can_fin (F := fun t => k * atC zs p inc t) (s := zs.length - p) (p := p) (c := k * inc) (fun t => by unfold eScale; rw [eC_fin hi]; rfl) (fun t ht => ?_) a1 a5 (by omega) (hmul _ (hv 0 (by omega)).1 (hv 0 (by omega)).2).1 (fun t _ => hle _ _ (g.step t)) ?_ ?_
    · show k * atC zs p inc (t + p) = k * atC zs p inc t + k * inc
      rw [g.per hi t ht, Int.mul_add]
    · have := hmul _ (hv (zs.length - p + p - 1) (by omega)).1 (hv (zs.length - p + p - 1) (by omega)).2
      show k * atC zs p inc (zs.length - p + p - 1) ≤ 1073741824
      omega
    · have := hmul inc g.i0 hinc
      omega

theorem drawn_400 (o : OkCur most zs p inc) {t : Nat} {x : Int} (ht : t ≤ 400) (h : eC zs p inc t = some x) : 0 ≤ x ∧ x ≤ 10000 := by
  by_cases h9 : t ≤ 399
  · exact drawn_bd o h9 h
  · by_cases hi : InfC zs
    · rw [eC_400 o.good hi (by omega)] at h; cases h
    · have := o.slow hi t
      have hb := eC_bd o.good h
      rw [hb.2.2] at this
      omega

theorem scale_can (o : OkCur most zs p inc) (h1 : 1 ≤ k) (h9 : k ≤ 9) : ECan (eScale k zs p inc) :=
  mul_can o.good (fun _ _ ht h => by have := drawn_400 o ht h; omega) h1 h9

theorem omap_none {f : Int → Int} : omap f none = none := rfl

/-- The sum of the multiples is the multiple of the sum. -/
theorem sum_scale {za zb zx : List Int} {pa pb px : Nat} {ia ib ix : Int} (ha : ∀ t, eC za pa ia t = eScale k zs p inc t) (hb : ∀ t, eC zb pb ib t = eScale k ys q jnc t) (hx : ∀ t, eC zx px ix t = eSum zs p inc ys q jnc t) : eSum za pa ia zb pb ib = eScale k zx px ix := by
  funext t
  unfold eSum eScale
  rw [ha, hb, hx]
  unfold eScale eSum
  cases eC zs p inc t with
  | none => rw [omap_none, oadd_none_l, oadd_none_l]; rfl
  | some x =>
    cases eC ys q jnc t with
    | none => rfl
    | some y => show some (k * x + k * y) = some (k * (x + y)); rw [Int.mul_add]

theorem min_mul (h1 : 1 ≤ k) (x y : Int) : min (k * x) (k * y) = k * min x y := by
  rcases Int.le_total x y with h | h
  · have := Int.mul_le_mul_of_nonneg_left h (show 0 ≤ k by omega)
    rw [show min x y = x by omega]; omega
  · have := Int.mul_le_mul_of_nonneg_left h (show 0 ≤ k by omega)
    rw [show min x y = y by omega]; omega

theorem min_scale {za zb : List Int} {pa pb : Nat} {ia ib : Int} (h1 : 1 ≤ k) (ha : ∀ t, eC za pa ia t = eScale k zs p inc t) (hb : ∀ t, eC zb pb ib t = eScale k ys q jnc t) : eMin za pa ia zb pb ib = fun t => omap (fun x => k * x) (eMin zs p inc ys q jnc t) := by
  funext t
  unfold eMin
  rw [ha, hb]
  unfold eScale
  cases eC zs p inc t with
  | none => cases eC ys q jnc t <;> rfl
  | some x =>
    cases eC ys q jnc t with
    | none => rfl
    | some y => show some (min (k * x) (k * y)) = some (k * min x y); rw [min_mul h1]

theorem twice (zs : List Int) (p : Nat) (inc : Int) : eSum zs p inc zs p inc = eScale 2 zs p inc := by
  funext t
  unfold eSum eScale
  cases eC zs p inc t with
  | none => rfl
  | some x => show some (x + x) = some (2 * x); congr 1; omega

theorem min_bd (o : OkCur most zs p inc) (l : OkCur most ys q jnc) {t : Nat} {x : Int} (ht : t ≤ 400) (h : eMin zs p inc ys q jnc t = some x) : 0 ≤ x ∧ x ≤ 10000 := by
  unfold eMin at h
  cases h1 : eC zs p inc t with
  | none => rw [h1] at h; exact drawn_400 l ht h
  | some u =>
    have a := drawn_400 o ht h1
    cases h2 : eC ys q jnc t with
    | none => rw [h1, h2] at h; cases h; exact a
    | some v => have b := drawn_400 l ht h2; rw [h1, h2] at h; cases h; omega

/-- A curve's share of a multiple is a curve. -/
theorem min_can_iff (o : OkCur most zs p inc) (l : OkCur most ys q jnc) (h1 : 1 ≤ k) (h9 : k ≤ 9) : ECan (fun t => omap (fun x => k * x) (eMin zs p inc ys q jnc t)) ↔ ECan (eMin zs p inc ys q jnc) := by
  constructor
  · rintro ⟨vs, r, c, g, he⟩
    by_cases hb : InfC zs ∧ InfC ys
    · refine can_of_inf (min_up o.good l.good) (by unfold eMin; rw [eC_400 o.good hb.1 (Nat.le_refl _), eC_400 l.good hb.2 (Nat.le_refl _)]; rfl) (fun t x ht hx => by have := min_bd o l (by omega) hx; omega) (fun t x y hx hy => ?_)
      have e1 : eC vs r c t = some (k * x) := by rw [he]; show omap _ (eMin zs p inc ys q jnc t) = _; rw [hx]; rfl
      have e2 : eC vs r c (t + 1) = some (k * y) := by rw [he]; show omap _ (eMin zs p inc ys q jnc (t + 1)) = _; rw [hy]; rfl
      have := eC_mono g e1 e2
      exact Int.le_of_mul_le_mul_left this (by omega)
    · have hs : ∀ t, eMin zs p inc ys q jnc t = some (encF (eMin zs p inc ys q jnc) t) := fun t => by
        unfold encF
        cases h : eMin zs p inc ys q jnc t with
        | some x => rfl
        | none =>
          exfalso
          unfold eMin at h
          cases hz : eC zs p inc t with
          | some x => cases hy : eC ys q jnc t <;> (rw [hz, hy] at h; cases h)
          | none =>
            rw [hz] at h
            exact hb ⟨(eC_none.1 hz).1, (eC_none.1 h).1⟩
      have hv : ∀ t, atC vs r c t = k * encF (eMin zs p inc ys q jnc) t := fun t => by
        have e1 : eC vs r c t = some (k * encF (eMin zs p inc ys q jnc) t) := by rw [he]; show omap _ (eMin zs p inc ys q jnc t) = _; rw [hs]; rfl
        exact (eC_bd g e1).2.2
      generalize hF : encF (eMin zs p inc ys q jnc) = F at hs hv
      have hf : ¬ InfC vs := fun hi => by
        have := eC_400 g hi (Nat.le_refl 399)
        rw [he] at this
        replace this : omap (fun x => k * x) (eMin zs p inc ys q jnc 399) = none := this
        rw [hs] at this; cases this
      have g1 := g.p1; have g2 := g.p2; have g3 := g.p3; have g4 := g.few
      have hpos : ∀ t, 0 ≤ F t := fun t => by
        have := (g.bd hf t).1
        rw [hv] at this
        exact Int.nonneg_of_mul_nonneg_right this (by omega)
      have hkle : ∀ x : Int, 0 ≤ x → x ≤ k * x := fun x hx => by
        have : 1 * x ≤ k * x := Int.mul_le_mul_of_nonneg_right h1 hx
        omega
      have hper : Per F (vs.length - r) r (F (vs.length - r + r) - F (vs.length - r)) := fun t ht => by
        have e1 := g.per hf t ht
        have e2 := g.per hf (vs.length - r) (Nat.le_refl _)
        rw [hv, hv] at e1 e2
        have e3 : k * (F (t + r) - F t) = k * (F (vs.length - r + r) - F (vs.length - r)) := by rw [Int.mul_sub, Int.mul_sub]; omega
        have := Int.eq_of_mul_eq_mul_left (by omega) e3
        omega
      have hmono : ∀ t, F t ≤ F (t + 1) := fun t => by
        have := g.step t
        rw [hv, hv] at this
        exact Int.le_of_mul_le_mul_left this (by omega)
      refine can_fin hs hper g1 g2 (by omega) (hpos 0) (fun t _ => hmono t) ?_ ?_
      · have e := g.small hf (show vs.length - r + r - 1 < vs.length by omega)
        rw [← atC_lt (p := r) (inc := c) (by omega), hv] at e
        have := hkle _ (hpos (vs.length - r + r - 1))
        omega
      · have e2 := g.per hf (vs.length - r) (Nat.le_refl _)
        rw [hv, hv] at e2
        have e3 : k * (F (vs.length - r + r) - F (vs.length - r)) = c := by rw [Int.mul_sub]; omega
        have hn : 0 ≤ F (vs.length - r + r) - F (vs.length - r) := by
          have hi0 := g.i0
          rw [← e3] at hi0
          exact Int.nonneg_of_mul_nonneg_right hi0 (by omega)
        have := hkle _ hn
        have := g.i1
        omega
  · rintro ⟨vs, r, c, g, he⟩
    have := mul_can (k := k) g (fun t x ht hx => by rw [he] at hx; have := min_bd o l ht hx; omega) h1 h9
    obtain ⟨us, d, e, g2, h2⟩ := this
    exact ⟨us, d, e, g2, fun t => by rw [h2]; unfold eScale; rw [he]⟩
end

end Go.Proofs.Ytbaboncanplikaa
