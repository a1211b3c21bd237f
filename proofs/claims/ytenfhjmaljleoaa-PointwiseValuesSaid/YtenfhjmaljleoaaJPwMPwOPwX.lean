/- The mathematics of curves that are made from their values: whether there is such a curve, and which. An infinite value is none. Nothing here speaks of the program. By the verifier's side. -/
import Derived.Test.YtenfhjmaljleoaaJCurMCurNOrdM
namespace Go.Proofs.Ytenfhjmaljleoaa

/-! ## The least period and start of a function -/

theorem normOf_ex {f : Nat → Int} {s P : Nat} {c : Int} (h : Per f s P c) (hP : 1 ≤ P) : ∃ s' p c', NormOf f s' p c' := by
  obtain ⟨p, ⟨h1, s1, c1, hp⟩, hl⟩ := least_ex (P := fun q => 1 ≤ q ∧ ∃ s c, Per f s q c) ⟨P, hP, s, c, h⟩
  obtain ⟨s2, h2, hs⟩ := least_ex (P := fun s => Per f s p c1) ⟨s1, hp⟩
  refine ⟨s2, p, c1, h2, h1, fun q hq hlt s' c' hk => hl q hlt ⟨hq, s', c', hk⟩, ?_⟩
  rcases Nat.eq_zero_or_pos s2 with h0 | hpos
  · exact .inl h0
  · refine .inr fun he => hs (s2 - 1) (by omega) fun t ht => ?_
    by_cases hlt : t = s2 - 1
    · rw [hlt]; exact he
    · exact h2 t (by omega)

theorem NormOf.start_le {f : Nat → Int} {s p s' P : Nat} {c I : Int} (h : NormOf f s p c) (k : Per f s' P I) (hP : 1 ≤ P) : s ≤ s' := by
  rcases h.start with h0 | hn
  · omega
  · exact Nat.le_of_not_lt fun hlt => hn ((k.any hP h.per) (s - 1) (by omega))

theorem NormOf.per_le {f : Nat → Int} {s p s' P : Nat} {c I : Int} (h : NormOf f s p c) (k : Per f s' P I) (hP : 1 ≤ P) : p ≤ P :=
  Nat.le_of_not_lt fun hlt => h.least P hP hlt _ _ k

theorem Good.perAny {zs : List Int} {p : Nat} {inc : Int} (g : Good zs p inc) : Per (atC zs p inc) (zs.length - p) p inc := by
  by_cases hi : zs.getD (zs.length - 1) 0 = infV
  · have h3 := g.p3
    obtain ⟨rfl, rfl⟩ := g.tailI hi
    intro t ht
    rw [atC_inf hi (by omega) (by omega), atC_inf hi (by omega) (by omega)]; omega
  · exact g.per hi

/-- A curve in normal form with the values F. -/
def Form (zs : List Int) (p : Nat) (inc : Int) (F : Nat → Int) : Prop :=
  Good zs p inc ∧ (∀ t, atC zs p inc t = F t) ∧ ∃ s, zs.length = s + p ∧ NormOf F s p inc

def CanBe (F : Nat → Int) : Prop := ∃ zs p inc, Good zs p inc ∧ ∀ t, atC zs p inc t = F t

theorem Form.unique {zs ys : List Int} {p q : Nat} {inc jnc : Int} {F : Nat → Int} (h : Form zs p inc F) (k : Form ys q jnc F) : zs = ys ∧ p = q ∧ inc = jnc := by
  obtain ⟨g, hv, s, hs, hn⟩ := h
  obtain ⟨g', kv, s', ks, kn⟩ := k
  obtain ⟨rfl, rfl, rfl⟩ := hn.unique kn
  refine ⟨list_ext_getD (by omega) fun i hi => ?_, rfl, rfl⟩
  rw [← atC_lt (p := p) (inc := inc) hi, ← atC_lt (zs := ys) (p := p) (inc := inc) (by omega), hv, kv]

theorem Good.form {ys : List Int} {q : Nat} {j : Int} (g : Good ys q j) {F : Nat → Int} (he : ∀ t, atC ys q j t = F t) {s p : Nat} {c : Int} (hn : NormOf F s p c) :
    s + p ≤ ys.length ∧ p ≤ q ∧ NormC ys q j (firsts F (s + p)) p c ∧ Form (firsts F (s + p)) p c F := by
  have hpe : Per F (ys.length - q) q j := fun t ht => by rw [← he, ← he]; exact g.perAny t ht
  have hs := hn.start_le hpe g.p1
  have hp := hn.per_le hpe g.p1
  have h3 := g.p3
  have h1 := g.p1
  have hp1 := hn.pos
  have htk : firsts F (s + p) = ys.take (s + p) := list_ext_getD (by rw [firsts_length, List.length_take]; omega) fun i hi => by
    rw [firsts_length] at hi
    rw [firsts_getD _ _ _ hi, getD_take hi, ← he, atC_lt (by omega)]
  have hN : NormC ys q j (firsts F (s + p)) p c := by
    rw [htk]
    by_cases hi : ys.getD (ys.length - 1) 0 = infV
    · obtain ⟨rfl, rfl⟩ := g.tailI hi
      obtain rfl : p = 1 := by omega
      have hc : c = 0 := (hn.per.mono hs).same hpe
      subst hc
      have hF : ∀ k, F (s + k) = F s := fun k => by
        induction k with
        | zero => rfl
        | succ k ih => have := hn.per (s + k) (by omega); rw [show s + (k + 1) = s + k + 1 by omega]; omega
      have hFs : F s = infV := by
        have := hF (ys.length - 1 - s)
        rw [show s + (ys.length - 1 - s) = ys.length - 1 by omega, ← he, atC_lt (by omega), hi] at this
        exact this.symm
      refine .inr ⟨s, by omega, by rw [← atC_lt (p := 1) (inc := 0) (show s < ys.length by omega), he]; exact hFs, fun k hk hx => ?_, rfl, rfl, rfl⟩
      rcases hn.start with h0 | hne
      · omega
      · have a1 := g.le (show k ≤ s - 1 by omega) (by omega)
        have a2 := g.val (s - 1) (by omega)
        have a3 := he (s - 1)
        rw [atC_lt (by omega)] at a3
        apply hne
        rw [show s - 1 + 1 = s by omega, hFs, ← a3]
        unfold infV at *; omega
    · exact .inl ⟨hi, s, by rw [show atC ys q j = F from funext he]; exact hn, rfl, by omega, hp⟩
  have hv := hN.values g
  exact ⟨by omega, hp, hN, hN.good g, fun t => (hv t).trans (he t), s, firsts_length _ _, hn⟩

/-- The list that the search makes is the curve, if it is valid. -/
theorem form_of {F : Nat → Int} {s p : Nat} {c : Int} (hn : NormOf F s p c) (g : Good (firsts F (s + p)) p c) : Form (firsts F (s + p)) p c F := by
  have hl := firsts_length F (s + p)
  have hp1 := hn.pos
  refine ⟨g, ?_, s, hl, hn⟩
  by_cases hi : (firsts F (s + p)).getD ((firsts F (s + p)).length - 1) 0 = infV
  · obtain ⟨rfl, rfl⟩ := g.tailI hi
    have hF : ∀ k, F (s + k) = F s := fun k => by
      induction k with
      | zero => rfl
      | succ k ih => have := hn.per (s + k) (by omega); rw [show s + (k + 1) = s + k + 1 by omega]; omega
    have hFs : F s = infV := by rw [hl, show s + 1 - 1 = s by omega, firsts_getD _ _ _ (by omega)] at hi; exact hi
    intro t
    by_cases ht : t < s + 1
    · rw [atC_lt (by omega), firsts_getD _ _ _ ht]
    · rw [atC_inf hi (by omega) (by omega), show t = s + (t - s) by omega, hF, hFs]
  · have hper := atC_per (inc := c) hn.pos (show p ≤ (firsts F (s + p)).length by omega) hi
    rw [hl, show s + p - p = s by omega] at hper
    exact hper.ext hn.per hn.pos fun t ht => by rw [atC_lt (by omega), firsts_getD _ _ _ ht]

theorem no_form {F : Nat → Int} {s p : Nat} {c : Int} (hn : NormOf F s p c) (h : ¬ Good (firsts F (s + p)) p c) : ¬ CanBe F := by
  rintro ⟨ys, q, j, g, he⟩
  exact h (g.form he hn).2.2.2.1

theorem no_form_long {F : Nat → Int} {s p : Nat} {c : Int} (hn : NormOf F s p c) (h : 400 < s + p) : ¬ CanBe F :=
  no_form hn fun g => by have := g.few; rw [firsts_length] at this; omega

theorem CanBe.form {F : Nat → Int} (h : CanBe F) : ∃ zs p inc, Form zs p inc F := by
  obtain ⟨ys, q, j, g, he⟩ := h
  have hpe : Per F (ys.length - q) q j := fun t ht => by rw [← he, ← he]; exact g.perAny t ht
  obtain ⟨s, p, c, hn⟩ := normOf_ex hpe g.p1
  exact ⟨_, _, _, (g.form he hn).2.2.2⟩

theorem CanBe.per {F : Nat → Int} (h : CanBe F) : ∃ s p c, s ≤ 399 ∧ 1 ≤ p ∧ Per F s p c := by
  obtain ⟨ys, q, j, g, he⟩ := h
  have h1 := g.few; have h2 := g.p1; have h3 := g.p3
  exact ⟨ys.length - q, q, j, by omega, h2, fun t ht => by rw [← he, ← he]; exact g.perAny t ht⟩

/-! ## Values that may be infinite -/

def enc : Option Int → Int
  | none => infV
  | some x => x

open Classical in
noncomputable def eC (zs : List Int) (p : Nat) (inc : Int) (t : Nat) : Option Int :=
  if InfC zs ∧ atC zs p inc t = infV then none else some (atC zs p inc t)

theorem enc_eC (zs : List Int) (p : Nat) (inc : Int) (t : Nat) : enc (eC zs p inc t) = atC zs p inc t := by
  unfold eC
  split
  · rename_i h; exact h.2.symm
  · rfl

theorem eC_fin {zs : List Int} (h : ¬ InfC zs) (p : Nat) (inc : Int) (t : Nat) : eC zs p inc t = some (atC zs p inc t) := by
  unfold eC; rw [if_neg (fun hx => h hx.1)]

theorem eC_none {zs : List Int} {p : Nat} {inc : Int} {t : Nat} : eC zs p inc t = none ↔ InfC zs ∧ atC zs p inc t = infV := by
  unfold eC
  split
  · rename_i h; exact ⟨fun _ => h, fun _ => rfl⟩
  · rename_i h; exact ⟨(fun hx => by cases hx), fun hx => absurd hx h⟩

/-- In an infinite curve each value is none or small. -/
theorem eC_inf {zs : List Int} {p : Nat} {inc : Int} (g : Good zs p inc) (hi : InfC zs) (t : Nat) : eC zs p inc t = none ∨ ∃ x, eC zs p inc t = some x ∧ atC zs p inc t = x ∧ 0 ≤ x ∧ x ≤ 1073741824 := by
  rcases g.inf_small hi t with h | h
  · exact .inl (eC_none.2 ⟨hi, h⟩)
  · refine .inr ⟨_, ?_, rfl, h.1, h.2⟩
    unfold eC; rw [if_neg]
    intro hx; have := hx.2; unfold infV at this; omega

theorem eC_late {zs : List Int} {p : Nat} {inc : Int} (g : Good zs p inc) (hi : InfC zs) {t : Nat} (ht : zs.length - 1 ≤ t) : eC zs p inc t = none := by
  have h1 := g.p1; have h3 := g.p3
  exact eC_none.2 ⟨hi, atC_inf hi ht (by omega)⟩

theorem eC_up {zs : List Int} {p : Nat} {inc : Int} (g : Good zs p inc) {t : Nat} (h : eC zs p inc t = none) : eC zs p inc (t + 1) = none := by
  obtain ⟨hi, ha⟩ := eC_none.1 h
  refine eC_none.2 ⟨hi, ?_⟩
  have h1 := g.step t
  rcases g.inf_small hi (t + 1) with h2 | h2
  · exact h2
  · rw [ha] at h1; unfold infV at h1; omega

theorem eC_bd {zs : List Int} {p : Nat} {inc : Int} (g : Good zs p inc) {t : Nat} {x : Int} (h : eC zs p inc t = some x) : 0 ≤ x ∧ x ≤ 1073741824 * ((t : Int) + 1) ∧ atC zs p inc t = x := by
  by_cases hi : InfC zs
  · rcases eC_inf g hi t with h2 | ⟨y, h2, h3, h4, h5⟩
    · rw [h2] at h; cases h
    · rw [h2] at h; cases h; omega
  · rw [eC_fin hi] at h; cases h
    have := g.bd hi t
    omega

/-- What the values of a curve that is to be made keep to: what is infinite stays so, and is told from what is finite. -/
def Tame (E : Nat → Option Int) : Prop :=
  (∀ t, E t = none → E (t + 1) = none) ∧ ((∃ u, 400 ≤ u ∧ ∃ y, E u = some y ∧ ¬ y = infV) ∨ (∀ t x, E t = some x → ¬ x = infV))

/-- A curve in normal form with these values. -/
def EForm (zs : List Int) (p : Nat) (inc : Int) (E : Nat → Option Int) : Prop :=
  Good zs p inc ∧ (∀ t, eC zs p inc t = E t) ∧ ∃ s, zs.length = s + p ∧ NormOf (atC zs p inc) s p inc

def ECan (E : Nat → Option Int) : Prop := ∃ zs p inc, Good zs p inc ∧ ∀ t, eC zs p inc t = E t

def encF (E : Nat → Option Int) (t : Nat) : Int := enc (E t)

theorem stays {E : Nat → Option Int} (h : ∀ t, E t = none → E (t + 1) = none) {t : Nat} (h0 : E t = none) (k : Nat) : E (t + k) = none := by
  induction k with
  | zero => exact h0
  | succ k ih => exact h (t + k) ih

theorem eform_of {E : Nat → Option Int} (hT : Tame E) {zs : List Int} {p : Nat} {inc : Int} (h : Form zs p inc (encF E)) : EForm zs p inc E := by
  obtain ⟨g, hv, s, hs, hn⟩ := h
  refine ⟨g, fun t => ?_, s, hs, by rw [show atC zs p inc = encF E from funext hv]; exact hn⟩
  have hf := g.few; have h1 := g.p1; have h3 := g.p3
  cases hE : E t with
  | none =>
    have ha : atC zs p inc t = infV := by rw [hv]; unfold encF; rw [hE]; rfl
    refine eC_none.2 ⟨Classical.byContradiction fun hi => ?_, ha⟩
    have hall : ∀ k, atC zs p inc (t + k) = infV := fun k => by rw [hv]; unfold encF; rw [stays hT.1 hE]; rfl
    have hper := g.per hi
    have e1 := hper (t + zs.length) (by omega)
    rw [hall, show t + zs.length + p = t + (zs.length + p) by omega, hall] at e1
    have hi0 : inc = 0 := by omega
    have e2 := (hper.mul t) (zs.length - p) (Nat.le_refl _)
    rw [hi0, Int.mul_zero, Int.add_zero] at e2
    have hle : t ≤ t * p := Nat.le_mul_of_pos_right _ (by omega)
    rw [hi0] at hall
    rw [show zs.length - p + t * p = t + (zs.length - p + t * p - t) by omega, hall, atC_lt (by omega)] at e2
    have := g.small hi (show zs.length - p < zs.length by omega)
    unfold infV at e2; omega
  | some x =>
    have ha : atC zs p inc t = x := by rw [hv]; unfold encF; rw [hE]; rfl
    unfold eC
    rw [if_neg, ha]
    rintro ⟨hi, hx⟩
    rcases hT.2 with ⟨u, hu, y, hy, hne⟩ | h
    · apply hne
      have e : atC zs p inc u = y := by rw [hv]; unfold encF; rw [hy]; rfl
      rw [← e]; exact atC_inf hi (by omega) (by omega)
    · exact h t x hE (by rw [← ha]; exact hx)

theorem ECan.can {E : Nat → Option Int} (h : ECan E) : CanBe (encF E) := by
  obtain ⟨zs, p, inc, g, he⟩ := h
  exact ⟨zs, p, inc, g, fun t => by rw [← enc_eC, he]; rfl⟩

theorem EForm.form {zs : List Int} {p : Nat} {inc : Int} {E : Nat → Option Int} (h : EForm zs p inc E) : Form zs p inc (encF E) := by
  obtain ⟨g, he, s, hs, hn⟩ := h
  have hv : ∀ t, atC zs p inc t = encF E t := fun t => by rw [← enc_eC, he]; rfl
  exact ⟨g, hv, s, hs, by rw [← show atC zs p inc = encF E from funext hv]; exact hn⟩

theorem EForm.unique {zs ys : List Int} {p q : Nat} {inc jnc : Int} {E : Nat → Option Int} (h : EForm zs p inc E) (k : EForm ys q jnc E) : zs = ys ∧ p = q ∧ inc = jnc :=
  h.form.unique k.form

theorem EForm.can {zs : List Int} {p : Nat} {inc : Int} {E : Nat → Option Int} (h : EForm zs p inc E) : ECan E := ⟨zs, p, inc, h.1, h.2.1⟩

/-- The normal form of a valid curve. -/
theorem NormC.eform {zs zs' : List Int} {p p' : Nat} {inc inc' : Int} (g : Good zs p inc) (h : NormC zs p inc zs' p' inc') : EForm zs' p' inc' (eC zs p inc) := by
  have hv := h.values g
  have g' := h.good g
  have hfin := h.fin_iff g
  have he : ∀ t, eC zs' p' inc' t = eC zs p inc t := fun t => by
    have e : InfC zs' ↔ InfC zs := hfin
    unfold eC
    rw [hv t]
    by_cases hi : InfC zs
    · have hi' := e.2 hi
      by_cases ha : atC zs p inc t = infV
      · rw [if_pos ⟨hi', ha⟩, if_pos ⟨hi, ha⟩]
      · rw [if_neg (fun hx => ha hx.2), if_neg (fun hx => ha hx.2)]
    · rw [if_neg (fun hx => hi (e.1 hx.1)), if_neg (fun hx => hi hx.1)]
  refine ⟨g', he, ?_⟩
  rw [show atC zs' p' inc' = atC zs p inc from funext hv]
  obtain ⟨s, p2, c2, hn⟩ := normOf_ex g.perAny g.p1
  obtain ⟨_, _, hN, hF⟩ := g.form (fun _ => rfl) hn
  obtain ⟨rfl, rfl, rfl⟩ := h.canon g g hN (fun _ => rfl)
  exact ⟨s, firsts_length _ _, hn⟩

/-! ## Curves from their values -/

theorem good_fin {F : Nat → Int} {s p : Nat} {c : Int} (hp : Per F s p c) (h1 : 1 ≤ p) (h2 : p ≤ 120) (h3 : s + p ≤ 400) (h0 : 0 ≤ F 0) (hm : ∀ t, t < s + p → F t ≤ F (t + 1)) (hb : F (s + p - 1) ≤ 1073741824) (hc : c ≤ 1073741824) :
    Good (firsts F (s + p)) p c ∧ (¬ InfC (firsts F (s + p))) ∧ ∀ t, atC (firsts F (s + p)) p c t = F t := by
  have hl := firsts_length F (s + p)
  have up : ∀ k i, i + k ≤ s + p → F i ≤ F (i + k) := fun k => by
    induction k with
    | zero => intro i _; exact Int.le_refl _
    | succ k ih => intro i hi; have a := ih i (by omega); have b := hm (i + k) (by omega); rw [show i + (k + 1) = i + k + 1 by omega]; omega
  have lo : ∀ i, i ≤ s + p → 0 ≤ F i := fun i hi => by have := up i 0 (by omega); rw [Nat.zero_add] at this; omega
  have hi' : ∀ i, i < s + p → F i ≤ 1073741824 := fun i hi => by have := up (s + p - 1 - i) i (by omega); rw [show i + (s + p - 1 - i) = s + p - 1 by omega] at this; omega
  have hlast : ¬ InfC (firsts F (s + p)) := by
    rw [infC_iff, hl, firsts_getD _ _ _ (by omega)]; unfold infV; omega
  have hc0 : F (s + p) = F s + c := hp s (Nat.le_refl _)
  have hup := up p s (by omega)
  have g : Good (firsts F (s + p)) p c := by
    refine ⟨by omega, h1, h2, by omega, by omega, hc, fun i hi => ?_, fun i hi => ?_, fun hx => absurd hx hlast, fun _ => ?_⟩
    · rw [hl] at hi; rw [firsts_getD _ _ _ hi]; exact .inl ⟨lo i (by omega), hi' i hi⟩
    · rw [hl] at hi; rw [firsts_getD _ _ _ (by omega), firsts_getD _ _ _ hi]; exact hm i (by omega)
    · rw [hl, firsts_getD _ _ _ (by omega), firsts_getD _ _ _ (by omega), show s + p - p = s by omega]
      have := hm (s + p - 1) (by omega)
      rw [show s + p - 1 + 1 = s + p by omega] at this
      omega
  refine ⟨g, hlast, ?_⟩
  have hper := g.per hlast
  rw [hl, show s + p - p = s by omega] at hper
  exact hper.ext hp h1 fun t ht => by rw [atC_lt (by omega), firsts_getD _ _ _ ht]

/-- There is a curve with these values, all finite. -/
theorem can_fin {E : Nat → Option Int} {F : Nat → Int} (hE : ∀ t, E t = some (F t)) {s p : Nat} {c : Int} (hp : Per F s p c) (h1 : 1 ≤ p) (h2 : p ≤ 120) (h3 : s + p ≤ 400) (h0 : 0 ≤ F 0) (hm : ∀ t, t < s + p → F t ≤ F (t + 1)) (hb : F (s + p - 1) ≤ 1073741824) (hc : c ≤ 1073741824) : ECan E := by
  obtain ⟨g, hf, hv⟩ := good_fin hp h1 h2 h3 h0 hm hb hc
  exact ⟨_, _, _, g, fun t => by rw [eC_fin hf, hv, hE]⟩

/-- There is a curve with these values, which are infinite from i on. -/
theorem can_inf {E : Nat → Option Int} {F : Nat → Int} {i : Nat} (hi : i ≤ 399) (hE : ∀ t, t < i → E t = some (F t)) (hN : ∀ t, i ≤ t → E t = none) (hb : ∀ t, t < i → 0 ≤ F t ∧ F t ≤ 1073741824) (hm : ∀ t, t + 1 < i → F t ≤ F (t + 1)) : ECan E := by
  have hl : (firsts F i ++ [infV]).length = i + 1 := by simp [firsts_length]
  have hlt : ∀ j, j < i → (firsts F i ++ [infV]).getD j 0 = F j := fun j hj => by
    rw [getD_append_lt (by rw [firsts_length]; exact hj), firsts_getD _ _ _ hj]
  have hat : (firsts F i ++ [infV]).getD i 0 = infV := by
    have := getD_append_eq (zs := firsts F i) (v := infV)
    rwa [firsts_length] at this
  have hlast : InfC (firsts F i ++ [infV]) := by rw [infC_iff, hl, Nat.add_sub_cancel, hat]
  have g : Good (firsts F i ++ [infV]) 1 0 := by
    refine ⟨by omega, by omega, by omega, by omega, by omega, by omega, fun j hj => ?_, fun j hj => ?_, fun _ => ⟨rfl, rfl⟩, fun hx => absurd hlast hx⟩
    · by_cases he : j = i
      · subst he; exact .inr hat
      · rw [hlt j (by omega)]; exact .inl (hb j (by omega))
    · by_cases he : j + 1 = i
      · rw [he, hat, hlt j (by omega)]; have := hb j (by omega); unfold infV; omega
      · rw [hlt j (by omega), hlt (j + 1) (by omega)]; exact hm j (by omega)
  refine ⟨_, _, _, g, fun t => ?_⟩
  by_cases ht : t < i
  · rw [hE t ht]
    unfold eC
    rw [if_neg, atC_lt (by omega), hlt t ht]
    rintro ⟨_, hx⟩
    rw [atC_lt (by omega), hlt t ht] at hx
    have := hb t ht
    unfold infV at hx; omega
  · rw [hN t (by omega)]
    exact eC_none.2 ⟨hlast, atC_inf hlast (by omega) (by omega)⟩

/-! ## The greater and the lesser of two functions -/

def maxF (a b : Nat → Int) (t : Nat) : Int := max (a t) (b t)
def minF (a b : Nat → Int) (t : Nat) : Int := min (a t) (b t)

theorem max_found {a b : Nat → Int} {S L : Nat} {ca cb : Int} (ha : Per a S L ca) (hb : Per b S L cb) (hL : 1 ≤ L) (h : ∀ t, S ≤ t → t < S + L → maxF a b (t + L) = maxF a b t + max ca cb) : Per (maxF a b) S L (max ca cb) := by
  intro t
  induction t using Nat.strongRecOn with
  | ind t ih =>
    intro ht
    by_cases hlt : t < S + L
    · exact h t ht hlt
    · obtain ⟨u, rfl⟩ : ∃ u, t = u + L := ⟨t - L, by omega⟩
      have h0 := ih u (by omega) (by omega)
      have a1 := ha u (by omega)
      have a2 := ha (u + L) (by omega)
      have b1 := hb u (by omega)
      have b2 := hb (u + L) (by omega)
      unfold maxF at *
      rw [a2, b2]
      rw [a1, b1] at h0 ⊢
      omega

theorem min_found {a b : Nat → Int} {S L : Nat} {ca cb : Int} (ha : Per a S L ca) (hb : Per b S L cb) (hL : 1 ≤ L) (h : ∀ t, S ≤ t → t < S + L → minF a b (t + L) = minF a b t + min ca cb) : Per (minF a b) S L (min ca cb) := by
  intro t
  induction t using Nat.strongRecOn with
  | ind t ih =>
    intro ht
    by_cases hlt : t < S + L
    · exact h t ht hlt
    · obtain ⟨u, rfl⟩ : ∃ u, t = u + L := ⟨t - L, by omega⟩
      have h0 := ih u (by omega) (by omega)
      have a1 := ha u (by omega)
      have a2 := ha (u + L) (by omega)
      have b1 := hb u (by omega)
      have b2 := hb (u + L) (by omega)
      unfold minF at *
      rw [a2, b2]
      rw [a1, b1] at h0 ⊢
      omega

theorem bound_ex (d : Nat → Int) (S : Nat) : ∀ L, ∃ K : Nat, ∀ r, r < L → d (S + r) ≤ K
  | 0 => ⟨0, fun r hr => absurd hr (Nat.not_lt_zero _)⟩
  | L + 1 => by
    obtain ⟨K, hK⟩ := bound_ex d S L
    refine ⟨K + (d (S + L)).toNat, fun r hr => ?_⟩
    by_cases he : r = L
    · subst he; omega
    · have := hK r (by omega); omega

/-- What falls from period to period is below 0 in the end. -/
theorem falls {d : Nat → Int} {S L : Nat} {c : Int} (h : Per d S L c) (hL : 1 ≤ L) (hc : c < 0) : ∃ S', S ≤ S' ∧ ∀ t, S' ≤ t → d t ≤ 0 := by
  obtain ⟨K, hK⟩ := bound_ex d S L
  refine ⟨S + (K + 1) * L, by omega, fun t ht => ?_⟩
  obtain ⟨r, j, hr, rfl⟩ := tick_split (S := S) hL (show S ≤ t by omega)
  have hj : K ≤ j := by
    refine Nat.le_of_not_lt fun hlt => ?_
    have h1 : j * L + L ≤ K * L := by
      have := Nat.mul_le_mul_right L (show j + 1 ≤ K by omega)
      rwa [Nat.succ_mul] at this
    rw [Nat.succ_mul] at ht
    omega
  rw [h.to r j]
  have h1 := hK r hr
  have h2 : (j : Int) * c ≤ (j : Int) * (-1) := Int.mul_le_mul_of_nonneg_left (by omega) (by omega)
  omega

theorem max_late {a b : Nat → Int} {S L : Nat} {ca cb : Int} (ha : Per a S L ca) (hb : Per b S L cb) (hL : 1 ≤ L) : ∃ S', Per (maxF a b) S' L (max ca cb) := by
  have hd : Per (fun t => a t - b t) S L (ca - cb) := fun t ht => by have := ha t ht; have := hb t ht; show a (t + L) - b (t + L) = a t - b t + (ca - cb); omega
  have hd' : Per (fun t => b t - a t) S L (cb - ca) := fun t ht => by have := ha t ht; have := hb t ht; show b (t + L) - a (t + L) = b t - a t + (cb - ca); omega
  rcases Int.lt_trichotomy ca cb with h | h | h
  · obtain ⟨S', hS, hf⟩ := falls hd hL (by omega)
    refine ⟨S', fun t ht => ?_⟩
    have e1 : a t - b t ≤ 0 := hf t ht
    have e2 : a (t + L) - b (t + L) ≤ 0 := hf (t + L) (by omega)
    have e3 := hb t (by omega)
    unfold maxF; omega
  · refine ⟨S, fun t ht => ?_⟩
    have e1 := ha t ht
    have e2 := hb t ht
    unfold maxF; omega
  · obtain ⟨S', hS, hf⟩ := falls hd' hL (by omega)
    refine ⟨S', fun t ht => ?_⟩
    have e1 : b t - a t ≤ 0 := hf t ht
    have e2 : b (t + L) - a (t + L) ≤ 0 := hf (t + L) (by omega)
    have e3 := ha t (by omega)
    unfold maxF; omega

theorem min_late {a b : Nat → Int} {S L : Nat} {ca cb : Int} (ha : Per a S L ca) (hb : Per b S L cb) (hL : 1 ≤ L) : ∃ S', Per (minF a b) S' L (min ca cb) := by
  have hd : Per (fun t => a t - b t) S L (ca - cb) := fun t ht => by have := ha t ht; have := hb t ht; show a (t + L) - b (t + L) = a t - b t + (ca - cb); omega
  have hd' : Per (fun t => b t - a t) S L (cb - ca) := fun t ht => by have := ha t ht; have := hb t ht; show b (t + L) - a (t + L) = b t - a t + (cb - ca); omega
  rcases Int.lt_trichotomy ca cb with h | h | h
  · obtain ⟨S', hS, hf⟩ := falls hd hL (by omega)
    refine ⟨S', fun t ht => ?_⟩
    have e1 : a t - b t ≤ 0 := hf t ht
    have e2 : a (t + L) - b (t + L) ≤ 0 := hf (t + L) (by omega)
    have e3 := ha t (by omega)
    unfold minF; omega
  · refine ⟨S, fun t ht => ?_⟩
    have e1 := ha t ht
    have e2 := hb t ht
    unfold minF; omega
  · obtain ⟨S', hS, hf⟩ := falls hd' hL (by omega)
    refine ⟨S', fun t ht => ?_⟩
    have e1 : b t - a t ≤ 0 := hf t ht
    have e2 : b (t + L) - a (t + L) ≤ 0 := hf (t + L) (by omega)
    have e3 := hb t (by omega)
    unfold minF; omega

/-- If a function grows by G in the end, and is a curve's, then it does so in each period behind tick 400. -/
theorem CanBe.late {F : Nat → Int} (h : CanBe F) {S L : Nat} {G : Int} (k : Per F S L G) : Per F 400 L G := by
  obtain ⟨s, p, c, hs, hp, hk⟩ := h.per
  exact (hk.any hp k).mono (by omega)

end Go.Proofs.Ytenfhjmaljleoaa

namespace Go.Proofs.Ytenfhjmaljleoaa

def oadd : Option Int → Option Int → Option Int
  | some x, some y => some (x + y)
  | _, _ => none
def omin : Option Int → Option Int → Option Int
  | none, y => y
  | some x, none => some x
  | some x, some y => some (min x y)
def omax : Option Int → Option Int → Option Int
  | some x, some y => some (max x y)
  | _, _ => none
def plI (a b : Int) : Int := if a = infV ∨ b = infV then infV else a + b

theorem plI_fin {a b : Int} (ha : ¬ a = infV) (hb : ¬ b = infV) : plI a b = a + b := by unfold plI; rw [if_neg (fun h => h.elim ha hb)]
theorem plI_l (b : Int) : plI infV b = infV := by unfold plI; rw [if_pos (.inl rfl)]
theorem plI_r (a : Int) : plI a infV = infV := by unfold plI; rw [if_pos (.inr rfl)]

theorem oadd_none_l (y : Option Int) : oadd none y = none := by cases y <;> rfl
theorem oadd_none_r (x : Option Int) : oadd x none = none := by cases x <;> rfl
theorem omax_none_l (y : Option Int) : omax none y = none := by cases y <;> rfl
theorem omax_none_r (x : Option Int) : omax x none = none := by cases x <;> rfl
/-- How much a curve grows in L ticks in the long run. -/
noncomputable def growI (zs : List Int) (p : Nat) (inc : Int) (L : Nat) : Int :=
  open Classical in if InfC zs then infV else ((L / p : Nat) : Int) * inc
theorem growI_inf {zs : List Int} (h : InfC zs) (p : Nat) (inc : Int) (L : Nat) : growI zs p inc L = infV := by unfold growI; rw [if_pos h]
theorem growI_fin {zs : List Int} (h : ¬ InfC zs) (p : Nat) (inc : Int) (L : Nat) : growI zs p inc L = ((L / p : Nat) : Int) * inc := by unfold growI; rw [if_neg h]

/-- A number that is infinite or small. -/
def Mid (x : Int) : Prop := x = infV ∨ (0 ≤ x ∧ x ≤ 1125899906842624)

def chk (F : Nat → Int) (L : Nat) (G : Int) : Prop := ∀ t, 400 ≤ t → t < 400 + L → F (t + L) = plI (F t) G
/-- The test of one period tells whether there is a curve. -/
def Settling (F : Nat → Int) (L : Nat) (G : Int) : Prop := (chk F L G → ∃ c, Per F 400 L c) ∧ (¬ chk F L G → ¬ CanBe F)
/-- The test of one period from the tick s on. -/
def chkS (F : Nat → Int) (s L : Nat) (G : Int) : Prop := ∀ t, s ≤ t → t < s + L → F (t + L) = plI (F t) G
def SettlingS (F : Nat → Int) (s L : Nat) (G : Int) : Prop := (chkS F s L G → ∃ c, Per F s L c) ∧ (¬ chkS F s L G → ¬ CanBe F)
theorem settling_of {F : Nat → Int} {L : Nat} {G c : Int} (hp : Per F 400 L c) (hc : chk F L G) : Settling F L G := ⟨fun _ => ⟨c, hp⟩, fun h => absurd hc h⟩

theorem settling_inf {F : Nat → Int} {L : Nat} (h : ∀ t, 400 ≤ t → F t = infV) : Settling F L infV :=
  settling_of (c := 0) (fun t ht => by rw [h t ht, h (t + L) (by omega)]; omega) (fun t h1 _ => by rw [h t h1, h (t + L) (by omega), plI_l])

section
variable {zs ys : List Int} {p q : Nat} {inc jnc : Int}

theorem Good.perL (g : Good zs p inc) (hf : ¬ InfC zs) {L : Nat} (hL : L / p * p = L) : Per (atC zs p inc) 400 L (((L / p : Nat) : Int) * inc) := by
  have h := (g.per hf).mul (L / p)
  rw [hL] at h
  have := g.few
  exact h.mono (by omega)

theorem grow_mid (g : Good zs p inc) {L : Nat} (hL : L ≤ 120) : Mid (growI zs p inc L) := by
  by_cases hi : InfC zs
  · rw [growI_inf hi]; exact .inl rfl
  · rw [growI_fin hi]
    have h0 := g.i0; have h1 := g.i1
    have h2 : L / p ≤ 120 := Nat.le_trans (Nat.div_le_self _ _) hL
    refine .inr ⟨Int.mul_nonneg (Int.natCast_nonneg _) h0, ?_⟩
    have : ((L / p : Nat) : Int) * inc ≤ 120 * 1073741824 := Int.mul_le_mul (by omega) h1 h0 (by omega)
    omega

theorem at_mid (g : Good zs p inc) {t : Nat} (ht : t ≤ 1000) : Mid (atC zs p inc t) := by
  rcases g.seen (t := t) (by omega) with h | ⟨_, h2, h3⟩
  · exact .inl h.2
  · exact .inr ⟨h2, by omega⟩

/-- The value of a curve at a tick that is not late, and the value with infinity. -/
theorem eC_cases (g : Good zs p inc) {t : Nat} (_ht : t ≤ 1048576) : (eC zs p inc t = none ∧ atC zs p inc t = infV) ∨ (∃ x, eC zs p inc t = some x ∧ atC zs p inc t = x ∧ 0 ≤ x ∧ x ≤ 1073741824 * ((t : Int) + 1)) := by
  cases h : eC zs p inc t with
  | none => exact .inl ⟨rfl, (eC_none.1 h).2⟩
  | some x => have := eC_bd g h; exact .inr ⟨x, rfl, this.2.2, this.1, this.2.1⟩

theorem eC_400 (g : Good zs p inc) (hi : InfC zs) {t : Nat} (ht : 399 ≤ t) : eC zs p inc t = none := eC_late g hi (by have := g.few; omega)

/-! ### Sum -/

noncomputable def eSum (zs : List Int) (p : Nat) (inc : Int) (ys : List Int) (q : Nat) (jnc : Int) (t : Nat) : Option Int := oadd (eC zs p inc t) (eC ys q jnc t)
noncomputable def eMin (zs : List Int) (p : Nat) (inc : Int) (ys : List Int) (q : Nat) (jnc : Int) (t : Nat) : Option Int := omin (eC zs p inc t) (eC ys q jnc t)
noncomputable def eMax (zs : List Int) (p : Nat) (inc : Int) (ys : List Int) (q : Nat) (jnc : Int) (t : Nat) : Option Int := omax (eC zs p inc t) (eC ys q jnc t)

/-- What is asked of a choice between two curves. -/
structure PairOk (ch : Int → Int → Int) (E : Nat → Option Int) (zs : List Int) (p : Nat) (inc : Int) (ys : List Int) (q : Nat) (jnc : Int) : Prop where
  val : ∀ t, t ≤ 1000 → encF E t = ch (atC zs p inc t) (atC ys q jnc t)
  mid : ∀ t, t ≤ 1000 → Mid (encF E t)
  gmid : ∀ L, L ≤ 120 → Mid (ch (growI zs p inc L) (growI ys q jnc L))
  settle : ∀ L, 1 ≤ L → L ≤ 120 → L / p * p = L → L / q * q = L → Settling (encF E) L (ch (growI zs p inc L) (growI ys q jnc L))
  tame : Tame E

theorem sum_mid {x y : Int} (hx : x = infV ∨ (0 ≤ x ∧ x ≤ 1099511627776)) (hy : y = infV ∨ (0 ≤ y ∧ y ≤ 1099511627776)) : Mid (plI x y) := by
  unfold Mid plI
  rcases hx with rfl | hx
  · rw [if_pos (.inl rfl)]; exact .inl rfl
  · rcases hy with rfl | hy
    · rw [if_pos (.inr rfl)]; exact .inl rfl
    · rw [if_neg]
      · exact .inr ⟨by omega, by omega⟩
      · unfold infV; omega

theorem grow_low (g : Good zs p inc) {L : Nat} (hL : L ≤ 120) : growI zs p inc L = infV ∨ (0 ≤ growI zs p inc L ∧ growI zs p inc L ≤ 1099511627776) := by
  by_cases hi : InfC zs
  · exact .inl (growI_inf hi p inc L)
  · rw [growI_fin hi]
    have h0 := g.i0; have h1 := g.i1
    have h2 : L / p ≤ 120 := Nat.le_trans (Nat.div_le_self _ _) hL
    refine .inr ⟨Int.mul_nonneg (Int.natCast_nonneg _) h0, ?_⟩
    have : ((L / p : Nat) : Int) * inc ≤ 120 * 1073741824 := Int.mul_le_mul (by omega) h1 h0 (by omega)
    omega

theorem at_low (g : Good zs p inc) {t : Nat} (ht : t ≤ 1000) : atC zs p inc t = infV ∨ (0 ≤ atC zs p inc t ∧ atC zs p inc t ≤ 1099511627776) := by
  rcases g.seen (t := t) (by omega) with h | ⟨_, h2, h3⟩
  · exact .inl h.2
  · exact .inr ⟨h2, by omega⟩

/-- Of a finite curve the growth and the early values are small. -/
theorem fin_low (g : Good zs p inc) (hf : ¬ InfC zs) {L : Nat} (hL : L ≤ 120) : (0 ≤ ((L / p : Nat) : Int) * inc ∧ ((L / p : Nat) : Int) * inc ≤ 1099511627776) ∧ ∀ t, t ≤ 1000 → 0 ≤ atC zs p inc t ∧ atC zs p inc t ≤ 1099511627776 := by
  refine ⟨?_, fun t ht => ?_⟩
  · have := grow_low g hL
    rw [growI_fin hf] at this
    rcases this with h | h
    · exfalso
      have h0 := g.i0; have h1 := g.i1
      have h2 : L / p ≤ 120 := Nat.le_trans (Nat.div_le_self _ _) hL
      have : ((L / p : Nat) : Int) * inc ≤ 120 * 1073741824 := Int.mul_le_mul (by omega) h1 h0 (by omega)
      unfold infV at h; omega
    · exact h
  · have := g.bd hf t
    omega

theorem sum_val (g : Good zs p inc) (k : Good ys q jnc) {t : Nat} (ht : t ≤ 1048576) : enc (eSum zs p inc ys q jnc t) = plI (atC zs p inc t) (atC ys q jnc t) := by
  unfold eSum
  rcases eC_cases g ht with ⟨h1, h2⟩ | ⟨x, h1, h2, h3, h4⟩
  · rw [h1, h2, plI_l, oadd_none_l]; rfl
  · rcases eC_cases k ht with ⟨k1, k2⟩ | ⟨y, k1, k2, k3, k4⟩
    · rw [k1, k2, plI_r, oadd_none_r]; rfl
    · rw [h1, k1, h2, k2, plI_fin (by unfold infV; omega) (by unfold infV; omega)]; rfl

theorem min_val (g : Good zs p inc) (k : Good ys q jnc) {t : Nat} (ht : t ≤ 1048576) : enc (eMin zs p inc ys q jnc t) = min (atC zs p inc t) (atC ys q jnc t) := by
  unfold eMin
  rcases eC_cases g ht with ⟨h1, h2⟩ | ⟨x, h1, h2, h3, h4⟩
  · rcases eC_cases k ht with ⟨k1, k2⟩ | ⟨y, k1, k2, k3, k4⟩
    · rw [h1, k1, h2, k2]; show infV = _; omega
    · rw [h1, k1, h2, k2]; show y = _; unfold infV; omega
  · rcases eC_cases k ht with ⟨k1, k2⟩ | ⟨y, k1, k2, k3, k4⟩
    · rw [h1, k1, h2, k2]; show x = _; unfold infV; omega
    · rw [h1, k1, h2, k2]; rfl

theorem max_val (g : Good zs p inc) (k : Good ys q jnc) {t : Nat} (ht : t ≤ 1048576) : enc (eMax zs p inc ys q jnc t) = max (atC zs p inc t) (atC ys q jnc t) := by
  unfold eMax
  rcases eC_cases g ht with ⟨h1, h2⟩ | ⟨x, h1, h2, h3, h4⟩
  · rcases eC_cases k ht with ⟨k1, k2⟩ | ⟨y, k1, k2, k3, k4⟩
    · rw [h1, k1, h2, k2]; show infV = _; omega
    · rw [h1, k1, h2, k2]; show infV = _; unfold infV; omega
  · rcases eC_cases k ht with ⟨k1, k2⟩ | ⟨y, k1, k2, k3, k4⟩
    · rw [h1, k1, h2, k2]; show infV = _; unfold infV; omega
    · rw [h1, k1, h2, k2]; rfl

theorem sum_up (g : Good zs p inc) (k : Good ys q jnc) (t : Nat) (h : eSum zs p inc ys q jnc t = none) : eSum zs p inc ys q jnc (t + 1) = none := by
  unfold eSum at *
  cases h1 : eC zs p inc t with
  | none => rw [eC_up g h1, oadd_none_l]
  | some x =>
    cases h2 : eC ys q jnc t with
    | none => rw [eC_up k h2, oadd_none_r]
    | some y => rw [h1, h2] at h; cases h

theorem max_up (g : Good zs p inc) (k : Good ys q jnc) (t : Nat) (h : eMax zs p inc ys q jnc t = none) : eMax zs p inc ys q jnc (t + 1) = none := by
  unfold eMax at *
  cases h1 : eC zs p inc t with
  | none => rw [eC_up g h1, omax_none_l]
  | some x =>
    cases h2 : eC ys q jnc t with
    | none => rw [eC_up k h2, omax_none_r]
    | some y => rw [h1, h2] at h; cases h

theorem min_up (g : Good zs p inc) (k : Good ys q jnc) (t : Nat) (h : eMin zs p inc ys q jnc t = none) : eMin zs p inc ys q jnc (t + 1) = none := by
  unfold eMin at *
  cases h1 : eC zs p inc t with
  | none =>
    cases h2 : eC ys q jnc t with
    | none => rw [eC_up g h1, eC_up k h2]; rfl
    | some y => rw [h1, h2] at h; cases h
  | some x => cases h2 : eC ys q jnc t <;> (rw [h1, h2] at h; cases h)

/-- Of an infinite sum or maximum the finite values are small. -/
theorem both_some {a b : Option Int} {x : Int} (h : oadd a b = some x) : ∃ y z, a = some y ∧ b = some z ∧ x = y + z := by
  cases a with
  | none => rw [oadd_none_l] at h; cases h
  | some y =>
    cases b with
    | none => cases h
    | some z => exact ⟨y, z, rfl, rfl, by cases h; rfl⟩
theorem both_some_max {a b : Option Int} {x : Int} (h : omax a b = some x) : ∃ y z, a = some y ∧ b = some z ∧ x = max y z := by
  cases a with
  | none => rw [omax_none_l] at h; cases h
  | some y =>
    cases b with
    | none => cases h
    | some z => exact ⟨y, z, rfl, rfl, by cases h; rfl⟩

/-- In a sum or maximum with an infinite curve the ticks with a finite value are early. -/
theorem early (g : Good zs p inc) (hi : InfC zs) {t : Nat} {y : Int} (h : eC zs p inc t = some y) : t ≤ 399 := by
  refine Nat.le_of_not_lt fun hlt => ?_
  rw [eC_400 g hi (by omega)] at h; cases h

theorem sum_pair (g : Good zs p inc) (k : Good ys q jnc) : PairOk plI (eSum zs p inc ys q jnc) zs p inc ys q jnc := by
  have hmid : ∀ t, t ≤ 1000 → Mid (encF (eSum zs p inc ys q jnc) t) := fun t ht => by
    unfold encF; rw [sum_val g k (by omega)]; exact sum_mid (at_low g ht) (at_low k ht)
  refine ⟨fun t ht => sum_val g k (by omega), hmid, fun L hL => sum_mid (grow_low g hL) (grow_low k hL), fun L h1 hL hp hq => ?_, ?_⟩
  · by_cases hi : InfC zs
    · rw [growI_inf hi, plI_l]
      exact settling_inf fun t ht => by unfold encF eSum; rw [eC_400 g hi (by omega), oadd_none_l]; rfl
    by_cases hj : InfC ys
    · rw [growI_inf hj, plI_r]
      exact settling_inf fun t ht => by unfold encF eSum; rw [eC_400 k hj (by omega), oadd_none_r]; rfl
    have hv : ∀ t, encF (eSum zs p inc ys q jnc) t = atC zs p inc t + atC ys q jnc t := fun t => by unfold encF eSum; rw [eC_fin hi, eC_fin hj]; rfl
    have ha := g.perL hi hp
    have hb := k.perL hj hq
    obtain ⟨g1, g2⟩ := fin_low g hi hL
    obtain ⟨k1, k2⟩ := fin_low k hj hL
    rw [growI_fin hi, growI_fin hj, plI_fin (by unfold infV; omega) (by unfold infV; omega)]
    refine settling_of (c := ((L / p : Nat) : Int) * inc + ((L / q : Nat) : Int) * jnc) (fun t ht => ?_) (fun t h1 h2 => ?_)
    · rw [hv, hv, ha t ht, hb t ht]; omega
    · have a1 := g2 t (by omega)
      have a2 := k2 t (by omega)
      rw [hv, hv, plI_fin (by unfold infV; omega) (by unfold infV; omega), ha t h1, hb t h1]; omega
  · refine ⟨sum_up g k, ?_⟩
    by_cases hi : InfC zs
    · refine .inr fun t x h => ?_
      obtain ⟨y, z, h1, h2, rfl⟩ := both_some h
      have := early g hi h1
      have := eC_bd g h1
      have := eC_bd k h2
      unfold infV; omega
    by_cases hj : InfC ys
    · refine .inr fun t x h => ?_
      obtain ⟨y, z, h1, h2, rfl⟩ := both_some h
      have := early k hj h2
      have := eC_bd g h1
      have := eC_bd k h2
      unfold infV; omega
    have a1 := g.bd hi 400
    have a2 := k.bd hj 400
    exact .inl ⟨400, Nat.le_refl _, atC zs p inc 400 + atC ys q jnc 400, by unfold eSum; rw [eC_fin hi, eC_fin hj]; rfl, by unfold infV; omega⟩

theorem max_mid {x y : Int} (hx : Mid x) (hy : Mid y) : Mid (max x y) := by
  unfold Mid infV at *; omega
theorem min_mid {x y : Int} (hx : Mid x) (hy : Mid y) : Mid (min x y) := by
  unfold Mid infV at *; omega

theorem max_pair (g : Good zs p inc) (k : Good ys q jnc) : PairOk max (eMax zs p inc ys q jnc) zs p inc ys q jnc := by
  refine ⟨fun t ht => max_val g k (by omega), fun t ht => ?_, fun L hL => max_mid (grow_mid g hL) (grow_mid k hL), fun L h1 hL hp hq => ?_, ?_⟩
  · unfold encF; rw [max_val g k (by omega)]; exact max_mid (at_mid g ht) (at_mid k ht)
  · by_cases hi : InfC zs
    · have e : max (growI zs p inc L) (growI ys q jnc L) = infV := by
        rw [growI_inf hi]; have := grow_mid k hL; unfold Mid infV at *; omega
      rw [e]
      exact settling_inf fun t ht => by unfold encF eMax; rw [eC_400 g hi (by omega), omax_none_l]; rfl
    by_cases hj : InfC ys
    · have e : max (growI zs p inc L) (growI ys q jnc L) = infV := by
        rw [growI_inf hj]; have := grow_mid g hL; unfold Mid infV at *; omega
      rw [e]
      exact settling_inf fun t ht => by unfold encF eMax; rw [eC_400 k hj (by omega), omax_none_r]; rfl
    have hv : encF (eMax zs p inc ys q jnc) = maxF (atC zs p inc) (atC ys q jnc) := funext fun t => by unfold encF eMax; rw [eC_fin hi, eC_fin hj]; rfl
    have ha := g.perL hi hp
    have hb := k.perL hj hq
    obtain ⟨g1, g2⟩ := fin_low g hi hL
    obtain ⟨k1, k2⟩ := fin_low k hj hL
    rw [growI_fin hi, growI_fin hj, hv]
    generalize ((L / p : Nat) : Int) * inc = ca at *
    generalize ((L / q : Nat) : Int) * jnc = cb at *
    have hch : ∀ t, 400 ≤ t → t < 400 + L → plI (maxF (atC zs p inc) (atC ys q jnc) t) (max ca cb) = maxF (atC zs p inc) (atC ys q jnc) t + max ca cb := fun t h1 h2 => by
      have a1 := g2 t (by omega)
      have a2 := k2 t (by omega)
      exact plI_fin (by unfold maxF infV; omega) (by unfold infV; omega)
    refine ⟨fun hc => ⟨_, max_found ha hb h1 fun t h3 h4 => by rw [hc t h3 h4, hch t h3 h4]⟩, fun hc hcan => hc fun t h3 h4 => ?_⟩
    obtain ⟨S', hS⟩ := max_late ha hb h1
    rw [hch t h3 h4]
    exact hcan.late hS t h3
  · refine ⟨max_up g k, ?_⟩
    by_cases hi : InfC zs
    · refine .inr fun t x h => ?_
      obtain ⟨y, z, h1, h2, rfl⟩ := both_some_max h
      have := early g hi h1
      have := eC_bd g h1
      have := eC_bd k h2
      unfold infV; omega
    by_cases hj : InfC ys
    · refine .inr fun t x h => ?_
      obtain ⟨y, z, h1, h2, rfl⟩ := both_some_max h
      have := early k hj h2
      have := eC_bd g h1
      have := eC_bd k h2
      unfold infV; omega
    have a1 := g.bd hi 400
    have a2 := k.bd hj 400
    exact .inl ⟨400, Nat.le_refl _, max (atC zs p inc 400) (atC ys q jnc 400), by unfold eMax; rw [eC_fin hi, eC_fin hj]; rfl, by unfold infV; omega⟩

theorem min_pair (g : Good zs p inc) (k : Good ys q jnc) : PairOk min (eMin zs p inc ys q jnc) zs p inc ys q jnc := by
  refine ⟨fun t ht => min_val g k (by omega), fun t ht => ?_, fun L hL => min_mid (grow_mid g hL) (grow_mid k hL), fun L h1 hL hp hq => ?_, ?_⟩
  · unfold encF; rw [min_val g k (by omega)]; exact min_mid (at_mid g ht) (at_mid k ht)
  · by_cases hi : InfC zs
    · by_cases hj : InfC ys
      · have e : min (growI zs p inc L) (growI ys q jnc L) = infV := by rw [growI_inf hi, growI_inf hj]; omega
        rw [e]
        exact settling_inf fun t ht => by unfold encF eMin; rw [eC_400 g hi (by omega), eC_400 k hj (by omega)]; rfl
      · have hb := k.perL hj hq
        obtain ⟨k1, k2⟩ := fin_low k hj hL
        have e : min (growI zs p inc L) (growI ys q jnc L) = ((L / q : Nat) : Int) * jnc := by rw [growI_inf hi, growI_fin hj]; unfold infV; omega
        have hv : ∀ t, 400 ≤ t → encF (eMin zs p inc ys q jnc) t = atC ys q jnc t := fun t ht => by unfold encF eMin; rw [eC_400 g hi (by omega), eC_fin hj]; rfl
        rw [e]
        refine settling_of (c := ((L / q : Nat) : Int) * jnc) (fun t ht => ?_) (fun t h1 h2 => ?_)
        · rw [hv t ht, hv (t + L) (by omega), hb t ht]
        · have a2 := k2 t (by omega)
          rw [hv t h1, hv (t + L) (by omega), hb t h1, plI_fin (by unfold infV; omega) (by unfold infV; omega)]
    by_cases hj : InfC ys
    · have hb := g.perL hi hp
      obtain ⟨k1, k2⟩ := fin_low g hi hL
      have e : min (growI zs p inc L) (growI ys q jnc L) = ((L / p : Nat) : Int) * inc := by rw [growI_inf hj, growI_fin hi]; unfold infV; omega
      have hv : ∀ t, 400 ≤ t → encF (eMin zs p inc ys q jnc) t = atC zs p inc t := fun t ht => by unfold encF eMin; rw [eC_400 k hj (by omega), eC_fin hi]; rfl
      rw [e]
      refine settling_of (c := ((L / p : Nat) : Int) * inc) (fun t ht => ?_) (fun t h1 h2 => ?_)
      · rw [hv t ht, hv (t + L) (by omega), hb t ht]
      · have a2 := k2 t (by omega)
        rw [hv t h1, hv (t + L) (by omega), hb t h1, plI_fin (by unfold infV; omega) (by unfold infV; omega)]
    have hv : encF (eMin zs p inc ys q jnc) = minF (atC zs p inc) (atC ys q jnc) := funext fun t => by unfold encF eMin; rw [eC_fin hi, eC_fin hj]; rfl
    have ha := g.perL hi hp
    have hb := k.perL hj hq
    obtain ⟨g1, g2⟩ := fin_low g hi hL
    obtain ⟨k1, k2⟩ := fin_low k hj hL
    rw [growI_fin hi, growI_fin hj, hv]
    generalize ((L / p : Nat) : Int) * inc = ca at *
    generalize ((L / q : Nat) : Int) * jnc = cb at *
    have hch : ∀ t, 400 ≤ t → t < 400 + L → plI (minF (atC zs p inc) (atC ys q jnc) t) (min ca cb) = minF (atC zs p inc) (atC ys q jnc) t + min ca cb := fun t h1 h2 => by
      have a1 := g2 t (by omega)
      have a2 := k2 t (by omega)
      exact plI_fin (by unfold minF infV; omega) (by unfold infV; omega)
    refine ⟨fun hc => ⟨_, min_found ha hb h1 fun t h3 h4 => by rw [hc t h3 h4, hch t h3 h4]⟩, fun hc hcan => hc fun t h3 h4 => ?_⟩
    obtain ⟨S', hS⟩ := min_late ha hb h1
    rw [hch t h3 h4]
    exact hcan.late hS t h3
  · refine ⟨min_up g k, ?_⟩
    by_cases hi : InfC zs
    · by_cases hj : InfC ys
      · refine .inr fun t x h => ?_
        unfold eMin at h
        cases h1 : eC zs p inc t with
        | none =>
          rw [h1] at h
          have h2 : eC ys q jnc t = some x := h
          have := early k hj h2
          have := eC_bd k h2
          unfold infV; omega
        | some y =>
          have := early g hi h1
          have := eC_bd g h1
          cases h2 : eC ys q jnc t with
          | none => rw [h1, h2] at h; cases h; unfold infV; omega
          | some z => have := eC_bd k h2; rw [h1, h2] at h; cases h; unfold infV; omega
      · have a2 := k.bd hj 400
        exact .inl ⟨400, Nat.le_refl _, atC ys q jnc 400, by unfold eMin; rw [eC_400 g hi (by omega), eC_fin hj]; rfl, by unfold infV; omega⟩
    by_cases hj : InfC ys
    · have a2 := g.bd hi 400
      exact .inl ⟨400, Nat.le_refl _, atC zs p inc 400, by unfold eMin; rw [eC_400 k hj (by omega), eC_fin hi]; rfl, by unfold infV; omega⟩
    have a1 := g.bd hi 400
    have a2 := k.bd hj 400
    exact .inl ⟨400, Nat.le_refl _, min (atC zs p inc 400) (atC ys q jnc 400), by unfold eMin; rw [eC_fin hi, eC_fin hj]; rfl, by unfold infV; omega⟩

/-! ### One curve -/

def omap (f : Int → Int) : Option Int → Option Int
  | none => none
  | some x => some (f x)

noncomputable def eScale (k : Int) (zs : List Int) (p : Nat) (inc : Int) (t : Nat) : Option Int := omap (fun x => k * x) (eC zs p inc t)
noncomputable def eLater (d : Nat) (zs : List Int) (p : Nat) (inc : Int) (t : Nat) : Option Int := if t < d then some 0 else eC zs p inc (t - d)
noncomputable def eAhead (d : Nat) (zs : List Int) (p : Nat) (inc : Int) (t : Nat) : Option Int := if t = 0 then some 0 else eC zs p inc (t + d)
noncomputable def eLower (c : Int) (zs : List Int) (p : Nat) (inc : Int) (t : Nat) : Option Int := omap (fun x => max (x - c) 0) (eC zs p inc t)
noncomputable def eRaise (c : Int) (zs : List Int) (p : Nat) (inc : Int) (t : Nat) : Option Int := if t = 0 then some 0 else omap (fun x => x + c) (eC zs p inc t)

/-- What is asked of a function that is periodic from a start on. -/
structure FromOk (E : Nat → Option Int) (s P : Nat) : Prop where
  mid : ∀ t, t < s + 2 * P → 0 ≤ encF E t ∧ encF E t ≤ infV
  per : ∃ c, Per (encF E) s P c
  tame : Tame E

theorem scale_val (g : Good zs p inc) {k : Int} {t : Nat} (ht : t ≤ 1048576) : enc (eScale k zs p inc t) = if atC zs p inc t = infV then infV else k * atC zs p inc t := by
  unfold eScale
  rcases eC_cases g ht with ⟨h1, h2⟩ | ⟨x, h1, h2, h3, h4⟩
  · rw [h1, h2, if_pos rfl]; rfl
  · rw [h1, h2, if_neg (by unfold infV; omega)]; rfl

theorem scale_from (g : Good zs p inc) {k : Int} (hk0 : 1 ≤ k) (hk1 : k ≤ 1073741824) : FromOk (eScale k zs p inc) (zs.length - p) p := by
  have hn := g.few; have h1 := g.p1; have h2 := g.p2; have h3 := g.p3; have hi0 := g.i0; have hi1 := g.i1
  have hmul : ∀ x : Int, 0 ≤ x → x ≤ 2147483648 → 0 ≤ k * x ∧ k * x ≤ 2305843009213693952 := fun x h h' => by
    refine ⟨Int.mul_nonneg (by omega) h, ?_⟩
    have : k * x ≤ 1073741824 * 2147483648 := Int.mul_le_mul hk1 h' h (by omega)
    omega
  by_cases hi : InfC zs
  · refine ⟨fun t ht => ?_, ⟨0, fun t ht => ?_⟩, fun t h => ?_, .inr fun t x h => ?_⟩
    · unfold encF eScale
      rcases eC_inf g hi t with h | ⟨x, h, _, h4, h5⟩
      · rw [h]; show 0 ≤ infV ∧ infV ≤ infV; unfold infV; omega
      · rw [h]; have := hmul x h4 (by omega); show 0 ≤ k * x ∧ k * x ≤ infV; unfold infV; omega
    · obtain ⟨rfl, rfl⟩ := g.tailI hi
      unfold encF eScale
      rw [eC_late g hi (t := t) (by omega), eC_late g hi (t := t + 1) (by omega)]; rfl
    · unfold eScale at *
      cases h4 : eC zs p inc t with
      | none => rw [eC_up g h4]; rfl
      | some x => rw [h4] at h; cases h
    · unfold eScale at h
      rcases eC_inf g hi t with h4 | ⟨y, h4, _, h6, h7⟩
      · rw [h4] at h; cases h
      · rw [h4] at h; cases h
        have := hmul y h6 (by omega)
        show ¬ k * y = infV
        unfold infV; omega
  · have hv : ∀ t, encF (eScale k zs p inc) t = k * atC zs p inc t := fun t => by unfold encF eScale; rw [eC_fin hi]; rfl
    refine ⟨fun t ht => ?_, ⟨k * inc, fun t ht => ?_⟩, fun t h => ?_, .inl ?_⟩
    · rw [hv]
      have hb : 0 ≤ atC zs p inc t ∧ atC zs p inc t ≤ 2147483648 := by
        by_cases hlt : t < zs.length
        · rw [atC_lt hlt]; have := g.small hi hlt; omega
        · have e := g.per hi (t - p) (by omega)
          rw [show t - p + p = t by omega, atC_lt (show t - p < zs.length by omega)] at e
          have := g.small hi (show t - p < zs.length by omega)
          omega
      have := hmul _ hb.1 hb.2
      unfold infV; omega
    · rw [hv, hv, g.per hi t ht, Int.mul_add]
    · unfold eScale at h; rw [eC_fin hi] at h; cases h
    · by_cases h0 : k * atC zs p inc 400 = infV
      · refine ⟨400 + p, by omega, k * atC zs p inc (400 + p), by unfold eScale; rw [eC_fin hi]; rfl, ?_⟩
        rw [g.per hi 400 (by omega), Int.mul_add, h0]
        intro he
        have hz : k * inc = 0 := by omega
        rcases Int.mul_eq_zero.1 hz with h | h
        · omega
        · have e2 := ((g.per hi).mul 400) (zs.length - p) (Nat.le_refl _)
          have hup := g.up (400 * p - (400 - (zs.length - p))) 400
          have hle : 400 ≤ 400 * p := Nat.le_mul_of_pos_right _ (by omega)
          rw [show 400 + (400 * p - (400 - (zs.length - p))) = zs.length - p + 400 * p by omega, e2, h, Int.mul_zero, Int.add_zero, atC_lt (show zs.length - p < zs.length by omega)] at hup
          have h5 := g.small hi (show zs.length - p < zs.length by omega)
          have h6 := (g.bd hi 400).1
          rw [h] at h6 h0
          have := hmul _ h6 (by omega)
          unfold infV at h0; omega
      · exact ⟨400, Nat.le_refl _, k * atC zs p inc 400, by unfold eScale; rw [eC_fin hi]; rfl, h0⟩

theorem later_val (_g : Good zs p inc) {d t : Nat} : enc (eLater d zs p inc t) = if t < d then 0 else atC zs p inc (t - d) := by
  unfold eLater
  by_cases h : t < d
  · rw [if_pos h, if_pos h]; rfl
  · rw [if_neg h, if_neg h, enc_eC]

theorem later_from (g : Good zs p inc) {d : Nat} (hd : d ≤ 401) : FromOk (eLater d zs p inc) (zs.length - p + d) p := by
  have hn := g.few; have h1 := g.p1; have h2 := g.p2; have h3 := g.p3
  refine ⟨fun t ht => ?_, ⟨inc, fun t ht => ?_⟩, fun t h => ?_, ?_⟩
  · unfold encF; rw [later_val g]
    split
    · unfold infV; omega
    · exact at_bd g (by omega)
  · unfold encF; rw [later_val g, later_val g, if_neg (by omega), if_neg (by omega), show t + p - d = t - d + p by omega]
    exact g.perAny _ (by omega)
  · unfold eLater at *
    by_cases hlt : t < d
    · rw [if_pos hlt] at h; cases h
    · rw [if_neg hlt] at h; rw [if_neg (by omega), show t + 1 - d = t - d + 1 by omega]; exact eC_up g h
  · by_cases hi : InfC zs
    · refine .inr fun t x h => ?_
      unfold eLater at h
      by_cases hlt : t < d
      · rw [if_pos hlt] at h; cases h; unfold infV; omega
      · rw [if_neg hlt] at h
        rcases eC_inf g hi (t - d) with h4 | ⟨y, h4, _, h6, h7⟩
        · rw [h4] at h; cases h
        · rw [h4] at h; cases h; unfold infV; omega
    · refine .inl ⟨1000, by omega, atC zs p inc (1000 - d), ?_, ?_⟩
      · unfold eLater; rw [if_neg (by omega), eC_fin hi]
      · have := g.bd hi (1000 - d); unfold infV; omega

theorem ahead_val (_g : Good zs p inc) {d t : Nat} : enc (eAhead d zs p inc t) = if t = 0 then 0 else atC zs p inc (t + d) := by
  unfold eAhead
  by_cases h : t = 0
  · rw [if_pos h, if_pos h]; rfl
  · rw [if_neg h, if_neg h, enc_eC]

theorem ahead_from (g : Good zs p inc) {d s : Nat} (hd : d ≤ 1048576) (hs1 : 1 ≤ s) (hs2 : zs.length - p ≤ s + d) (hs3 : s ≤ 400) : FromOk (eAhead d zs p inc) s p := by
  have hn := g.few; have h1 := g.p1; have h2 := g.p2; have h3 := g.p3
  have hbd : ∀ t, t ≤ 1000 → 0 ≤ atC zs p inc (t + d) ∧ atC zs p inc (t + d) ≤ infV ∧ (¬ InfC zs → ¬ atC zs p inc (t + d) = infV) := fun t ht => by
    by_cases hi : InfC zs
    · rcases g.inf_small hi (t + d) with h | h
      · rw [h]; exact ⟨by unfold infV; omega, Int.le_refl _, fun h => absurd hi h⟩
      · exact ⟨h.1, by unfold infV; omega, fun h => absurd hi h⟩
    · have := g.bd hi (t + d)
      have e : (1073741824 : Int) * (((t + d : Nat) : Int) + 1) ≤ 1073741824 * 1050000 := Int.mul_le_mul_of_nonneg_left (by omega) (by omega)
      exact ⟨this.1, by unfold infV; omega, fun _ => by unfold infV; omega⟩
  refine ⟨fun t ht => ?_, ⟨inc, fun t ht => ?_⟩, fun t h => ?_, ?_⟩
  · unfold encF; rw [ahead_val g]
    split
    · unfold infV; omega
    · exact ⟨(hbd t (by omega)).1, (hbd t (by omega)).2.1⟩
  · unfold encF; rw [ahead_val g, ahead_val g, if_neg (by omega), if_neg (by omega), show t + p + d = t + d + p by omega]
    exact g.perAny _ (by omega)
  · unfold eAhead at *
    by_cases hlt : t = 0
    · rw [if_pos hlt] at h; cases h
    · rw [if_neg hlt] at h; rw [if_neg (by omega), show t + 1 + d = t + d + 1 by omega]; exact eC_up g h
  · by_cases hi : InfC zs
    · refine .inr fun t x h => ?_
      unfold eAhead at h
      by_cases hlt : t = 0
      · rw [if_pos hlt] at h; cases h; unfold infV; omega
      · rw [if_neg hlt] at h
        rcases eC_inf g hi (t + d) with h4 | ⟨y, h4, _, h6, h7⟩
        · rw [h4] at h; cases h
        · rw [h4] at h; cases h; unfold infV; omega
    · refine .inl ⟨400, by omega, atC zs p inc (400 + d), ?_, (hbd 400 (by omega)).2.2 hi⟩
      unfold eAhead; rw [if_neg (by omega), eC_fin hi]

theorem raise_val (g : Good zs p inc) {c : Int} {t : Nat} (ht : t ≤ 1048576) (hc : c ≤ 1073741824) : enc (eRaise c zs p inc t) = if t = 0 then 0 else plI (atC zs p inc t) c := by
  unfold eRaise
  by_cases h : t = 0
  · rw [if_pos h, if_pos h]; rfl
  · rw [if_neg h, if_neg h]
    rcases eC_cases g ht with ⟨h1, h2⟩ | ⟨x, h1, h2, h3, h4⟩
    · rw [h1, h2, plI_l]; rfl
    · rw [h1, h2, plI_fin (by unfold infV; omega) (by unfold infV; omega)]; rfl

theorem raise_from (g : Good zs p inc) {c : Int} {s : Nat} (hc0 : 0 ≤ c) (hc : c ≤ 1073741824) (hs1 : 1 ≤ s) (hs2 : zs.length - p ≤ s) (hs3 : s ≤ 400) : FromOk (eRaise c zs p inc) s p := by
  have hn := g.few; have h1 := g.p1; have h2 := g.p2; have h3 := g.p3
  refine ⟨fun t ht => ?_, ?_, fun t h => ?_, ?_⟩
  · unfold encF; rw [raise_val g (by omega) hc]
    split
    · unfold infV; omega
    · have := sum_mid (at_low g (t := t) (by omega)) (y := c) (.inr ⟨hc0, by omega⟩)
      unfold Mid infV at *; omega
  · by_cases hi : InfC zs
    · refine ⟨0, fun t ht => ?_⟩
      obtain ⟨rfl, rfl⟩ := g.tailI hi
      unfold encF eRaise
      rw [if_neg (by omega), if_neg (by omega), eC_late g hi (t := t) (by omega), eC_late g hi (t := t + 1) (by omega)]; rfl
    · refine ⟨inc, fun t ht => ?_⟩
      unfold encF eRaise
      rw [if_neg (by omega), if_neg (by omega), eC_fin hi, eC_fin hi]
      show atC zs p inc (t + p) + c = atC zs p inc t + c + inc
      rw [g.per hi t (by omega)]; omega
  · unfold eRaise at *
    by_cases hlt : t = 0
    · rw [if_pos hlt] at h; cases h
    · rw [if_neg hlt] at h; rw [if_neg (by omega)]
      cases h4 : eC zs p inc t with
      | none => rw [eC_up g h4]; rfl
      | some x => rw [h4] at h; cases h
  · by_cases hi : InfC zs
    · refine .inr fun t x h => ?_
      unfold eRaise at h
      by_cases hlt : t = 0
      · rw [if_pos hlt] at h; cases h; unfold infV; omega
      · rw [if_neg hlt] at h
        rcases eC_inf g hi t with h4 | ⟨y, h4, _, h6, h7⟩
        · rw [h4] at h; cases h
        · rw [h4] at h; cases h; show ¬ y + c = infV; unfold infV; omega
    · refine .inl ⟨400, by omega, atC zs p inc 400 + c, ?_, ?_⟩
      · unfold eRaise; rw [if_neg (by omega), eC_fin hi]; rfl
      · have := g.bd hi 400; unfold infV; omega

theorem lower_val (g : Good zs p inc) {c : Int} {t : Nat} (ht : t ≤ 1048576) : enc (eLower c zs p inc t) = if atC zs p inc t = infV then infV else max (atC zs p inc t - c) 0 := by
  unfold eLower
  rcases eC_cases g ht with ⟨h1, h2⟩ | ⟨x, h1, h2, h3, h4⟩
  · rw [h1, h2, if_pos rfl]; rfl
  · rw [h1, h2, if_neg (by unfold infV; omega)]; rfl

theorem lower_settle (g : Good zs p inc) {c : Int} (hc0 : 0 ≤ c) (hc : c ≤ 1073741824) : Settling (encF (eLower c zs p inc)) p (growI zs p inc p) ∧ Tame (eLower c zs p inc) ∧ ∀ t, t ≤ 1000 → Mid (encF (eLower c zs p inc) t) := by
  have h1 := g.p1; have h2 := g.p2
  have hup : ∀ t, eLower c zs p inc t = none → eLower c zs p inc (t + 1) = none := fun t h => by
    unfold eLower at *
    cases h4 : eC zs p inc t with
    | none => rw [eC_up g h4]; rfl
    | some x => rw [h4] at h; cases h
  refine ⟨?_, ⟨hup, ?_⟩, fun t ht => ?_⟩
  · by_cases hi : InfC zs
    · rw [growI_inf hi]
      exact settling_inf fun t ht => by unfold encF eLower; rw [eC_400 g hi (by omega)]; rfl
    have hv : encF (eLower c zs p inc) = maxF (fun t => atC zs p inc t - c) (fun _ => 0) := funext fun t => by unfold encF eLower; rw [eC_fin hi]; rfl
    have hself : p / p * p = p := by rw [Nat.div_self (by omega), Nat.one_mul]
    have ha0 := g.perL hi hself
    obtain ⟨g1, g2⟩ := fin_low g hi h2
    rw [growI_fin hi, hv]
    generalize ((p / p : Nat) : Int) * inc = ca at *
    have ha : Per (fun t => atC zs p inc t - c) 400 p ca := fun t ht => by
      have := ha0 t ht
      show atC zs p inc (t + p) - c = atC zs p inc t - c + ca
      omega
    have hb : Per (fun _ => (0 : Int)) 400 p 0 := fun t ht => by show (0 : Int) = 0 + 0; omega
    have hca : max ca 0 = ca := by omega
    have hch : ∀ t, 400 ≤ t → t < 400 + p → plI (maxF (fun t => atC zs p inc t - c) (fun _ => 0) t) ca = maxF (fun t => atC zs p inc t - c) (fun _ => 0) t + max ca 0 := fun t h1 h2 => by
      have a1 := g2 t (by omega)
      rw [hca]
      exact plI_fin (by show ¬ max (atC zs p inc t - c) 0 = infV; unfold infV; omega) (by unfold infV; omega)
    refine ⟨fun hc => ⟨_, max_found ha hb h1 fun t h3 h4 => by rw [hc t h3 h4, hch t h3 h4]⟩, fun hc hcan => hc fun t h3 h4 => ?_⟩
    obtain ⟨S', hS⟩ := max_late ha hb h1
    rw [hch t h3 h4]
    exact hcan.late hS t h3
  · by_cases hi : InfC zs
    · refine .inr fun t x h => ?_
      unfold eLower at h
      rcases eC_inf g hi t with h4 | ⟨y, h4, _, h6, h7⟩
      · rw [h4] at h; cases h
      · rw [h4] at h; cases h; show ¬ max (y - c) 0 = infV; unfold infV; omega
    · refine .inl ⟨400, by omega, max (atC zs p inc 400 - c) 0, ?_, ?_⟩
      · unfold eLower; rw [eC_fin hi]; rfl
      · have := g.bd hi 400; unfold infV; omega
  · unfold encF; rw [lower_val g (by omega)]
    have := at_mid g ht
    split
    · exact .inl rfl
    · rename_i hne
      unfold Mid infV at *; omega

end

end Go.Proofs.Ytenfhjmaljleoaa

namespace Go.Proofs.Ytenfhjmaljleoaa

/-- A finite curve that is short and small. -/
structure Tiny (zs : List Int) (p : Nat) (inc : Int) : Prop where
  good : Good zs p inc
  fin : ¬ InfC zs
  len : zs.length ≤ 16
  p8 : p ≤ 8
  i3 : inc ≤ 1000
  up : ∀ t : Nat, atC zs p inc t ≤ 10000 + 1000 * (t : Int)

theorem tiny_of {zs : List Int} {p : Nat} {inc : Int} (g : Good zs p inc) (hf : ¬ InfC zs) (h1 : zs.length ≤ 16) (h2 : p ≤ 8) (h3 : inc ≤ 1000) (h4 : ∀ i, i < zs.length → zs.getD i 0 ≤ 10000 ∨ zs.getD i 0 = infV) : Tiny zs p inc := by
  refine ⟨g, hf, h1, h2, h3, fun t => ?_⟩
  have hp := g.p3; have hp1 := g.p1
  induction t using Nat.strongRecOn with
  | ind t ih =>
    by_cases hlt : t < zs.length
    · rw [atC_lt hlt]
      rcases h4 t hlt with h | h
      · omega
      · have := g.small hf hlt; rw [h] at this; unfold infV at this; omega
    · have e := g.per hf (t - p) (by omega)
      have := ih (t - p) (by omega)
      rw [show t - p + p = t by omega] at e
      omega

theorem raise_can {zs : List Int} {p : Nat} {inc : Int} (h : Tiny zs p inc) {c : Int} (h0 : 0 ≤ c) (h1 : c ≤ 1000) : ECan (eRaise c zs p inc) := by
  have g := h.good
  have a1 := g.p1; have a2 := g.p3; have a3 := h.len; have a4 := h.p8; have a5 := h.i3
  refine can_fin (F := fun t => if t = 0 then 0 else atC zs p inc t + c) (s := zs.length - p + 1) (p := p) (c := inc) (fun t => ?_) (fun t ht => ?_) a1 (by omega) (by omega) ?_ (fun t ht => ?_) ?_ (by omega)
  · unfold eRaise
    by_cases ht : t = 0
    · rw [if_pos ht, if_pos ht]
    · rw [if_neg ht, if_neg ht, eC_fin h.fin]; rfl
  · show (if t + p = 0 then 0 else atC zs p inc (t + p) + c) = (if t = 0 then 0 else atC zs p inc t + c) + inc
    rw [if_neg (by omega), if_neg (by omega), g.per h.fin t (by omega)]; omega
  · show (0 : Int) ≤ if 0 = 0 then 0 else _
    rw [if_pos rfl]; omega
  · show (if t = 0 then 0 else atC zs p inc t + c) ≤ if t + 1 = 0 then 0 else atC zs p inc (t + 1) + c
    rw [if_neg (show ¬ t + 1 = 0 by omega)]
    split
    · have := (g.bd h.fin (t + 1)).1; omega
    · have := g.step t; omega
  · show (if zs.length - p + 1 + p - 1 = 0 then 0 else atC zs p inc (zs.length - p + 1 + p - 1) + c) ≤ 1073741824
    rw [if_neg (by omega)]
    have := h.up (zs.length - p + 1 + p - 1)
    omega

theorem later_can {zs : List Int} {p : Nat} {inc : Int} (h : Tiny zs p inc) {d : Nat} (hd : d ≤ 100) : ECan (eLater d zs p inc) := by
  have g := h.good
  have a1 := g.p1; have a2 := g.p3; have a3 := h.len; have a4 := h.p8; have a5 := h.i3
  refine can_fin (F := fun t => if t < d then 0 else atC zs p inc (t - d)) (s := zs.length - p + d) (p := p) (c := inc) (fun t => ?_) (fun t ht => ?_) a1 (by omega) (by omega) ?_ (fun t ht => ?_) ?_ (by omega)
  · unfold eLater
    by_cases ht : t < d
    · rw [if_pos ht, if_pos ht]
    · rw [if_neg ht, if_neg ht, eC_fin h.fin]
  · show (if t + p < d then 0 else atC zs p inc (t + p - d)) = (if t < d then 0 else atC zs p inc (t - d)) + inc
    rw [if_neg (by omega), if_neg (by omega), show t + p - d = t - d + p by omega, g.per h.fin (t - d) (by omega)]
  · show (0 : Int) ≤ if 0 < d then 0 else atC zs p inc (0 - d)
    split
    · omega
    · exact (g.bd h.fin _).1
  · show (if t < d then 0 else atC zs p inc (t - d)) ≤ if t + 1 < d then 0 else atC zs p inc (t + 1 - d)
    by_cases h1 : t + 1 < d
    · rw [if_pos (by omega), if_pos h1]; omega
    · rw [if_neg h1]
      by_cases h2 : t < d
      · rw [if_pos h2]; exact (g.bd h.fin _).1
      · rw [if_neg h2, show t + 1 - d = t - d + 1 by omega]; exact g.step _
  · show (if zs.length - p + d + p - 1 < d then 0 else atC zs p inc (zs.length - p + d + p - 1 - d)) ≤ 1073741824
    rw [if_neg (by omega)]
    have := h.up (zs.length - p + d + p - 1 - d)
    omega

theorem self_can {zs : List Int} {p : Nat} {inc : Int} (g : Good zs p inc) : ECan (eC zs p inc) := ⟨zs, p, inc, g, fun _ => rfl⟩

theorem lower_raise {zs za : List Int} {p pa : Nat} {inc ia c : Int} (g : Good zs p inc) (hf : ¬ InfC zs) (h0 : zs.getD 0 0 = 0) (hc : 0 ≤ c) (he : ∀ t, eC za pa ia t = eRaise c zs p inc t) : eLower c za pa ia = eC zs p inc := by
  funext t
  have a1 := g.p1; have a2 := g.p3
  unfold eLower
  rw [he t]
  unfold eRaise
  rw [eC_fin hf]
  by_cases ht : t = 0
  · rw [if_pos ht, ht, atC_lt (by omega), h0]
    show some (max (0 - c) 0) = some 0
    rw [show max (0 - c) 0 = 0 by omega]
  · rw [if_neg ht]
    show some (max (atC zs p inc t + c - c) 0) = some (atC zs p inc t)
    have := (g.bd hf t).1
    rw [show max (atC zs p inc t + c - c) 0 = atC zs p inc t by omega]

theorem ahead_later {zs za : List Int} {p pa : Nat} {inc ia : Int} (g : Good zs p inc) (hf : ¬ InfC zs) (h0 : zs.getD 0 0 = 0) {d : Nat} (he : ∀ t, eC za pa ia t = eLater d zs p inc t) : eAhead d za pa ia = eC zs p inc := by
  funext t
  have a1 := g.p1; have a2 := g.p3
  unfold eAhead
  by_cases ht : t = 0
  · rw [if_pos ht, ht, eC_fin hf, atC_lt (by omega), h0]
  · rw [if_neg ht, he]
    unfold eLater
    rw [if_neg (by omega), show t + d - d = t by omega]

theorem later_later {zs za : List Int} {p pa : Nat} {inc ia : Int} {d m : Nat} (he : ∀ t, eC za pa ia t = eLater d zs p inc t) : eLater m za pa ia = eLater (d + m) zs p inc := by
  funext t
  unfold eLater
  by_cases h1 : t < m
  · rw [if_pos h1, if_pos (by omega)]
  · rw [if_neg h1, he]
    unfold eLater
    by_cases h2 : t - m < d
    · rw [if_pos h2, if_pos (by omega)]
    · rw [if_neg h2, if_neg (by omega), show t - (d + m) = t - m - d by omega]

end Go.Proofs.Ytenfhjmaljleoaa

namespace Go.Proofs.Ytenfhjmaljleoaa

theorem can_of_inf {E : Nat → Option Int} (hu : ∀ t, E t = none → E (t + 1) = none) (hex : E 399 = none) (hb : ∀ t x, t ≤ 399 → E t = some x → 0 ≤ x ∧ x ≤ 1073741824) (hm : ∀ t x y, E t = some x → E (t + 1) = some y → x ≤ y) : ECan E := by
  obtain ⟨i, hi, hl⟩ := least_ex (P := fun t => E t = none) ⟨399, hex⟩
  have hi9 : i ≤ 399 := Nat.le_of_not_lt fun h => hl 399 h hex
  have hs : ∀ t, t < i → E t = some (encF E t) := fun t ht => by
    unfold encF
    cases h : E t with
    | none => exact absurd h (hl t ht)
    | some x => rfl
  refine can_inf (F := encF E) hi9 hs (fun t ht => ?_) (fun t ht => hb t _ (by omega) (hs t ht)) (fun t ht => hm t _ _ (hs t (by omega)) (hs (t + 1) ht))
  rw [show t = i + (t - i) by omega]
  exact stays hu hi _

section
variable {zs ys : List Int} {p q most : Nat} {inc jnc : Int}

theorem eC_mono (g : Good zs p inc) {t : Nat} {x y : Int} (h : eC zs p inc t = some x) (k : eC zs p inc (t + 1) = some y) : x ≤ y := by
  have h1 := (eC_bd g h).2.2
  have h2 := (eC_bd g k).2.2
  have := g.step t
  omega

/-- Of a curve that was drawn the values up to tick 399 are small. -/
theorem drawn_bd (o : OkCur most zs p inc) {t : Nat} {x : Int} (ht : t ≤ 399) (h : eC zs p inc t = some x) : 0 ≤ x ∧ x ≤ 10000 := by
  have hb := eC_bd o.good h
  by_cases hi : InfC zs
  · rcases eC_inf o.good hi t with h1 | ⟨y, h1, h2, h3, h4⟩
    · rw [h1] at h; cases h
    · rw [h1] at h; cases h
      refine ⟨h3, ?_⟩
      have hlt : t < zs.length := Nat.lt_of_not_le fun hle => by rw [eC_late o.good hi (by omega)] at h1; cases h1
      rcases o.val t hlt with h5 | h5
      · rw [atC_lt hlt] at h2; omega
      · rw [atC_lt hlt, h5] at h2; unfold infV at h2; omega
  · have := o.slow hi t
    rw [hb.2.2] at this
    omega

theorem sum_can (o : OkCur most zs p inc) (k : OkCur most ys q jnc) (hm : most ≤ 9) : ECan (eSum zs p inc ys q jnc) := by
  have g := o.good; have h := k.good
  have e399 : ∀ {zs : List Int} {p : Nat} {inc : Int}, Good zs p inc → InfC zs → eC zs p inc 399 = none := fun g hi => eC_400 g hi (Nat.le_refl _)
  have hbd : ∀ t x, t ≤ 399 → eSum zs p inc ys q jnc t = some x → 0 ≤ x ∧ x ≤ 1073741824 := fun t x ht hx => by
    obtain ⟨y, z, h1, h2, rfl⟩ := both_some hx
    have := drawn_bd o ht h1
    have := drawn_bd k ht h2
    omega
  have hmo : ∀ t x y, eSum zs p inc ys q jnc t = some x → eSum zs p inc ys q jnc (t + 1) = some y → x ≤ y := fun t x y hx hy => by
    obtain ⟨x1, x2, h1, h2, rfl⟩ := both_some hx
    obtain ⟨y1, y2, k1, k2, rfl⟩ := both_some hy
    have := eC_mono g h1 k1
    have := eC_mono h h2 k2
    omega
  by_cases hi : InfC zs
  · exact can_of_inf (sum_up g h) (by unfold eSum; rw [e399 g hi, oadd_none_l]) hbd hmo
  by_cases hj : InfC ys
  · exact can_of_inf (sum_up g h) (by unfold eSum; rw [e399 h hj, oadd_none_r]) hbd hmo
  have a1 := g.p1; have a2 := h.p1; have a3 := o.p8; have a4 := k.p8; have a5 := o.few; have a6 := k.few
  have b1 := o.inc; have b2 := k.inc; have b3 := g.i0; have b4 := h.i0
  have hpq : p * q ≤ 8 * 8 := Nat.mul_le_mul a3 a4
  have hpq1 : 1 ≤ p * q := Nat.mul_pos (by omega) (by omega)
  have ha : Per (atC zs p inc) 16 (p * q) ((q : Int) * inc) := by
    have := (g.per hi).mul q
    rw [Nat.mul_comm] at this
    exact this.mono (by omega)
  have hb : Per (atC ys q jnc) 16 (p * q) ((p : Int) * jnc) := ((h.per hj).mul p).mono (by omega)
  have hc1 : (q : Int) * inc ≤ 8 * 1000 := Int.mul_le_mul (by omega) b1 b3 (by omega)
  have hc2 : (p : Int) * jnc ≤ 8 * 1000 := Int.mul_le_mul (by omega) b2 b4 (by omega)
  refine can_fin (F := fun t => atC zs p inc t + atC ys q jnc t) (s := 16) (p := p * q) (c := (q : Int) * inc + (p : Int) * jnc) (fun t => by unfold eSum; rw [eC_fin hi, eC_fin hj]; rfl) (fun t ht => ?_) hpq1 (by omega) (by omega) ?_ (fun t _ => ?_) ?_ (by omega)
  · show atC zs p inc (t + p * q) + atC ys q jnc (t + p * q) = atC zs p inc t + atC ys q jnc t + _
    rw [ha t ht, hb t ht]; omega
  · show 0 ≤ atC zs p inc 0 + atC ys q jnc 0
    have := (g.bd hi 0).1; have := (h.bd hj 0).1; omega
  · show atC zs p inc t + atC ys q jnc t ≤ atC zs p inc (t + 1) + atC ys q jnc (t + 1)
    have := g.step t; have := h.step t; omega
  · show atC zs p inc (16 + p * q - 1) + atC ys q jnc (16 + p * q - 1) ≤ 1073741824
    have := o.slow hi (16 + p * q - 1); have := k.slow hj (16 + p * q - 1); omega

end

end Go.Proofs.Ytenfhjmaljleoaa

namespace Go.Proofs.Ytenfhjmaljleoaa

section
variable {zs ys : List Int} {p q most : Nat} {inc jnc k : Int}

/-- A multiple of a curve with small values is a curve. -/
theorem mul_can (g : Good zs p inc) (hb : ∀ t x, t ≤ 400 → eC zs p inc t = some x → x ≤ 100000) (h1 : 1 ≤ k) (h9 : k ≤ 9) : ECan (eScale k zs p inc) := by
  have a1 := g.p1; have a3 := g.p3; have a4 := g.few; have a5 := g.p2
  have hmul : ∀ x : Int, 0 ≤ x → x ≤ 100000 → 0 ≤ k * x ∧ k * x ≤ 900000 := fun x h h' => by
    refine ⟨Int.mul_nonneg (by omega) h, ?_⟩
    have : k * x ≤ 9 * 100000 := Int.mul_le_mul h9 h' h (by omega)
    omega
  have hle : ∀ x y : Int, x ≤ y → k * x ≤ k * y := fun x y h => Int.mul_le_mul_of_nonneg_left h (by omega)
  by_cases hi : InfC zs
  · refine can_of_inf (fun t h => ?_) (by unfold eScale; rw [eC_400 g hi (Nat.le_refl _)]; rfl) (fun t x ht hx => ?_) (fun t x y hx hy => ?_)
    · unfold eScale at *
      cases h4 : eC zs p inc t with
      | none => rw [eC_up g h4]; rfl
      | some x => rw [h4] at h; cases h
    · unfold eScale at hx
      cases h4 : eC zs p inc t with
      | none => rw [h4] at hx; cases hx
      | some y =>
        rw [h4] at hx; cases hx
        have := hmul y (eC_bd g h4).1 (hb t y (by omega) h4)
        show 0 ≤ k * y ∧ k * y ≤ 1073741824
        omega
    · unfold eScale at hx hy
      cases h4 : eC zs p inc t with
      | none => rw [h4] at hx; cases hx
      | some u =>
        cases h5 : eC zs p inc (t + 1) with
        | none => rw [h5] at hy; cases hy
        | some v =>
          rw [h4] at hx; cases hx; rw [h5] at hy; cases hy
          exact hle u v (eC_mono g h4 h5)
  · have hv : ∀ t, t ≤ 400 → 0 ≤ atC zs p inc t ∧ atC zs p inc t ≤ 100000 := fun t ht => ⟨(g.bd hi t).1, hb t _ ht (eC_fin hi p inc t)⟩
    have hinc : inc ≤ 100000 := by
      have e := g.per hi (zs.length - p) (Nat.le_refl _)
      rw [show zs.length - p + p = zs.length by omega] at e
      have := hv zs.length (by omega)
      have := hv (zs.length - p) (by omega)
      omega
    refine can_fin (F := fun t => k * atC zs p inc t) (s := zs.length - p) (p := p) (c := k * inc) (fun t => by unfold eScale; rw [eC_fin hi]; rfl) (fun t ht => ?_) a1 a5 (by omega) (hmul _ (hv 0 (by omega)).1 (hv 0 (by omega)).2).1 (fun t _ => hle _ _ (g.step t)) ?_ ?_
    · show k * atC zs p inc (t + p) = k * atC zs p inc t + k * inc
      rw [g.per hi t ht, Int.mul_add]
    · have := hmul _ (hv (zs.length - p + p - 1) (by omega)).1 (hv (zs.length - p + p - 1) (by omega)).2
      show k * atC zs p inc (zs.length - p + p - 1) ≤ 1073741824
      omega
    · have := hmul inc g.i0 hinc
      omega

theorem drawn_400 (o : OkCur most zs p inc) {t : Nat} {x : Int} (ht : t ≤ 400) (h : eC zs p inc t = some x) : 0 ≤ x ∧ x ≤ 10000 := by
  by_cases h9 : t ≤ 399
  · exact drawn_bd o h9 h
  · by_cases hi : InfC zs
    · rw [eC_400 o.good hi (by omega)] at h; cases h
    · have := o.slow hi t
      have hb := eC_bd o.good h
      rw [hb.2.2] at this
      omega

theorem scale_can (o : OkCur most zs p inc) (h1 : 1 ≤ k) (h9 : k ≤ 9) : ECan (eScale k zs p inc) :=
  mul_can o.good (fun _ _ ht h => by have := drawn_400 o ht h; omega) h1 h9

theorem omap_none {f : Int → Int} : omap f none = none := rfl

/-- The sum of the multiples is the multiple of the sum. -/
theorem sum_scale {za zb zx : List Int} {pa pb px : Nat} {ia ib ix : Int} (ha : ∀ t, eC za pa ia t = eScale k zs p inc t) (hb : ∀ t, eC zb pb ib t = eScale k ys q jnc t) (hx : ∀ t, eC zx px ix t = eSum zs p inc ys q jnc t) : eSum za pa ia zb pb ib = eScale k zx px ix := by
  funext t
  unfold eSum eScale
  rw [ha, hb, hx]
  unfold eScale eSum
  cases eC zs p inc t with
  | none => rw [omap_none, oadd_none_l, oadd_none_l]; rfl
  | some x =>
    cases eC ys q jnc t with
    | none => rfl
    | some y => show some (k * x + k * y) = some (k * (x + y)); rw [Int.mul_add]

theorem min_mul (h1 : 1 ≤ k) (x y : Int) : min (k * x) (k * y) = k * min x y := by
  rcases Int.le_total x y with h | h
  · have := Int.mul_le_mul_of_nonneg_left h (show 0 ≤ k by omega)
    rw [show min x y = x by omega]; omega
  · have := Int.mul_le_mul_of_nonneg_left h (show 0 ≤ k by omega)
    rw [show min x y = y by omega]; omega

theorem min_scale {za zb : List Int} {pa pb : Nat} {ia ib : Int} (h1 : 1 ≤ k) (ha : ∀ t, eC za pa ia t = eScale k zs p inc t) (hb : ∀ t, eC zb pb ib t = eScale k ys q jnc t) : eMin za pa ia zb pb ib = fun t => omap (fun x => k * x) (eMin zs p inc ys q jnc t) := by
  funext t
  unfold eMin
  rw [ha, hb]
  unfold eScale
  cases eC zs p inc t with
  | none => cases eC ys q jnc t <;> rfl
  | some x =>
    cases eC ys q jnc t with
    | none => rfl
    | some y => show some (min (k * x) (k * y)) = some (k * min x y); rw [min_mul h1]

theorem twice (zs : List Int) (p : Nat) (inc : Int) : eSum zs p inc zs p inc = eScale 2 zs p inc := by
  funext t
  unfold eSum eScale
  cases eC zs p inc t with
  | none => rfl
  | some x => show some (x + x) = some (2 * x); congr 1; omega

theorem min_bd (o : OkCur most zs p inc) (l : OkCur most ys q jnc) {t : Nat} {x : Int} (ht : t ≤ 400) (h : eMin zs p inc ys q jnc t = some x) : 0 ≤ x ∧ x ≤ 10000 := by
  unfold eMin at h
  cases h1 : eC zs p inc t with
  | none => rw [h1] at h; exact drawn_400 l ht h
  | some u =>
    have a := drawn_400 o ht h1
    cases h2 : eC ys q jnc t with
    | none => rw [h1, h2] at h; cases h; exact a
    | some v => have b := drawn_400 l ht h2; rw [h1, h2] at h; cases h; omega

/-- A curve's share of a multiple is a curve. -/
theorem min_can_iff (o : OkCur most zs p inc) (l : OkCur most ys q jnc) (h1 : 1 ≤ k) (h9 : k ≤ 9) : ECan (fun t => omap (fun x => k * x) (eMin zs p inc ys q jnc t)) ↔ ECan (eMin zs p inc ys q jnc) := by
  constructor
  · rintro ⟨vs, r, c, g, he⟩
    by_cases hb : InfC zs ∧ InfC ys
    · refine can_of_inf (min_up o.good l.good) (by unfold eMin; rw [eC_400 o.good hb.1 (Nat.le_refl _), eC_400 l.good hb.2 (Nat.le_refl _)]; rfl) (fun t x ht hx => by have := min_bd o l (by omega) hx; omega) (fun t x y hx hy => ?_)
      have e1 : eC vs r c t = some (k * x) := by rw [he]; show omap _ (eMin zs p inc ys q jnc t) = _; rw [hx]; rfl
      have e2 : eC vs r c (t + 1) = some (k * y) := by rw [he]; show omap _ (eMin zs p inc ys q jnc (t + 1)) = _; rw [hy]; rfl
      have := eC_mono g e1 e2
      exact Int.le_of_mul_le_mul_left this (by omega)
    · have hs : ∀ t, eMin zs p inc ys q jnc t = some (encF (eMin zs p inc ys q jnc) t) := fun t => by
        unfold encF
        cases h : eMin zs p inc ys q jnc t with
        | some x => rfl
        | none =>
          exfalso
          unfold eMin at h
          cases hz : eC zs p inc t with
          | some x => cases hy : eC ys q jnc t <;> (rw [hz, hy] at h; cases h)
          | none =>
            rw [hz] at h
            exact hb ⟨(eC_none.1 hz).1, (eC_none.1 h).1⟩
      have hv : ∀ t, atC vs r c t = k * encF (eMin zs p inc ys q jnc) t := fun t => by
        have e1 : eC vs r c t = some (k * encF (eMin zs p inc ys q jnc) t) := by rw [he]; show omap _ (eMin zs p inc ys q jnc t) = _; rw [hs]; rfl
        exact (eC_bd g e1).2.2
      generalize hF : encF (eMin zs p inc ys q jnc) = F at hs hv
      have hf : ¬ InfC vs := fun hi => by
        have := eC_400 g hi (Nat.le_refl 399)
        rw [he] at this
        replace this : omap (fun x => k * x) (eMin zs p inc ys q jnc 399) = none := this
        rw [hs] at this; cases this
      have g1 := g.p1; have g2 := g.p2; have g3 := g.p3; have g4 := g.few
      have hpos : ∀ t, 0 ≤ F t := fun t => by
        have := (g.bd hf t).1
        rw [hv] at this
        exact Int.nonneg_of_mul_nonneg_right this (by omega)
      have hkle : ∀ x : Int, 0 ≤ x → x ≤ k * x := fun x hx => by
        have : 1 * x ≤ k * x := Int.mul_le_mul_of_nonneg_right h1 hx
        omega
      have hper : Per F (vs.length - r) r (F (vs.length - r + r) - F (vs.length - r)) := fun t ht => by
        have e1 := g.per hf t ht
        have e2 := g.per hf (vs.length - r) (Nat.le_refl _)
        rw [hv, hv] at e1 e2
        have e3 : k * (F (t + r) - F t) = k * (F (vs.length - r + r) - F (vs.length - r)) := by rw [Int.mul_sub, Int.mul_sub]; omega
        have := Int.eq_of_mul_eq_mul_left (by omega) e3
        omega
      have hmono : ∀ t, F t ≤ F (t + 1) := fun t => by
        have := g.step t
        rw [hv, hv] at this
        exact Int.le_of_mul_le_mul_left this (by omega)
      refine can_fin hs hper g1 g2 (by omega) (hpos 0) (fun t _ => hmono t) ?_ ?_
      · have e := g.small hf (show vs.length - r + r - 1 < vs.length by omega)
        rw [← atC_lt (p := r) (inc := c) (by omega), hv] at e
        have := hkle _ (hpos (vs.length - r + r - 1))
        omega
      · have e2 := g.per hf (vs.length - r) (Nat.le_refl _)
        rw [hv, hv] at e2
        have e3 : k * (F (vs.length - r + r) - F (vs.length - r)) = c := by rw [Int.mul_sub]; omega
        have hn : 0 ≤ F (vs.length - r + r) - F (vs.length - r) := by
          have hi0 := g.i0
          rw [← e3] at hi0
          exact Int.nonneg_of_mul_nonneg_right hi0 (by omega)
        have := hkle _ hn
        have := g.i1
        omega
  · rintro ⟨vs, r, c, g, he⟩
    have := mul_can (k := k) g (fun t x ht hx => by rw [he] at hx; have := min_bd o l ht hx; omega) h1 h9
    obtain ⟨us, d, e, g2, h2⟩ := this
    exact ⟨us, d, e, g2, fun t => by rw [h2]; unfold eScale; rw [he]⟩
end

end Go.Proofs.Ytenfhjmaljleoaa

namespace Go.Proofs.Ytenfhjmaljleoaa

/-- At most, where none is the greatest. -/
def ole (a b : Option Int) : Prop := ∀ y, b = some y → ∃ x, a = some x ∧ x ≤ y

theorem ole_refl (a : Option Int) : ole a a := fun y h => ⟨y, h, Int.le_refl _⟩
theorem ole_omin_l (a b : Option Int) : ole (omin a b) a := fun y hy => by
  subst hy
  cases b with
  | none => exact ⟨y, rfl, Int.le_refl _⟩
  | some z => exact ⟨min y z, rfl, by omega⟩
theorem ole_omin_r (a b : Option Int) : ole (omin a b) b := fun y hy => by
  subst hy
  cases a with
  | none => exact ⟨y, rfl, Int.le_refl _⟩
  | some z => exact ⟨min z y, rfl, by omega⟩
theorem ole_omax_l (a b : Option Int) : ole a (omax a b) := fun y hy => by
  obtain ⟨u, v, rfl, rfl, rfl⟩ := both_some_max hy
  exact ⟨u, rfl, by omega⟩
theorem ole_omax_r (a b : Option Int) : ole b (omax a b) := fun y hy => by
  obtain ⟨u, v, rfl, rfl, rfl⟩ := both_some_max hy
  exact ⟨v, rfl, by omega⟩
theorem ole_omin {a b c d : Option Int} (h : ole a b) (k : ole c d) : ole (omin a c) (omin b d) := fun y hy => by
  cases b with
  | none =>
    cases d with
    | none => cases hy
    | some v =>
      cases hy
      obtain ⟨x, rfl, hx⟩ := k y rfl
      cases a with
      | none => exact ⟨x, rfl, hx⟩
      | some u => exact ⟨min u x, rfl, by omega⟩
  | some u =>
    obtain ⟨x, rfl, hx⟩ := h u rfl
    cases d with
    | none =>
      cases hy
      cases c with
      | none => exact ⟨x, rfl, hx⟩
      | some z => exact ⟨min x z, rfl, by omega⟩
    | some v =>
      cases hy
      obtain ⟨z, rfl, hz⟩ := k v rfl
      exact ⟨min x z, rfl, by omega⟩
theorem ole_oadd {a b : Option Int} (hb : ∀ y, b = some y → 0 ≤ y) : ole a (oadd a b) := fun y hy => by
  obtain ⟨u, v, rfl, rfl, rfl⟩ := both_some hy
  have := hb v rfl
  exact ⟨u, rfl, by omega⟩
theorem ole_omap {f : Int → Int} (hf : ∀ x y, x ≤ y → f x ≤ f y) {a b : Option Int} (h : ole a b) : ole (omap f a) (omap f b) := fun y hy => by
  cases b with
  | none => cases hy
  | some u =>
    cases hy
    obtain ⟨x, rfl, hx⟩ := h u rfl
    exact ⟨f x, rfl, hf x u hx⟩

/-- Of two curves whose values are so the first is at most the second at every tick. -/
theorem excP_of {zs ys : List Int} {p q : Nat} {inc jnc : Int} (h : ∀ t, ole (eC zs p inc t) (eC ys q jnc t)) : ExcP (dC zs p inc ys q jnc) 0 false := by
  refine .inr ⟨rfl, rfl, fun t => ?_⟩
  cases h2 : eC ys q jnc t with
  | none =>
    have k2 := eC_none.1 h2
    unfold dC
    by_cases h1 : InfC zs ∧ atC zs p inc t = infV
    · rw [if_pos h1, if_pos k2]; omega
    · rw [if_neg h1, if_pos k2]; omega
  | some y =>
    obtain ⟨x, h1, hle⟩ := h t y h2
    have k1 : ¬ (InfC zs ∧ atC zs p inc t = infV) := fun hx => by rw [eC_none.2 hx] at h1; cases h1
    have k2 : ¬ (InfC ys ∧ atC ys q jnc t = infV) := fun hx => by rw [eC_none.2 hx] at h2; cases h2
    have e1 : atC zs p inc t = x := by rw [← enc_eC, h1]; rfl
    have e2 : atC ys q jnc t = y := by rw [← enc_eC, h2]; rfl
    unfold dC
    rw [if_neg k1, if_neg k2, e1, e2]; omega

end Go.Proofs.Ytenfhjmaljleoaa

namespace Go.Proofs.Ytenfhjmaljleoaa

section
variable {zs : List Int} {p : Nat} {inc : Int}

/-- Short and small. -/
structure Mild (zs : List Int) (p : Nat) (inc : Int) : Prop where
  good : Good zs p inc
  len : zs.length ≤ 100
  bd : ∀ t x, t ≤ 400 → eC zs p inc t = some x → x ≤ 100000

theorem Mild.at (m : Mild zs p inc) (hf : ¬ InfC zs) {t : Nat} (ht : t ≤ 400) : 0 ≤ atC zs p inc t ∧ atC zs p inc t ≤ 100000 := ⟨(m.good.bd hf t).1, m.bd t _ ht (eC_fin hf p inc t)⟩

theorem mild_later (m : Mild zs p inc) {d : Nat} (hd : d ≤ 100) : ECan (eLater d zs p inc) := by
  have g := m.good
  have a1 := g.p1; have a2 := g.p3; have a3 := m.len; have a4 := g.p2
  by_cases hi : InfC zs
  · refine can_of_inf (fun t h => ?_) ?_ (fun t x ht hx => ?_) (fun t x y hx hy => ?_)
    · unfold eLater at *
      by_cases hlt : t < d
      · rw [if_pos hlt] at h; cases h
      · rw [if_neg hlt] at h; rw [if_neg (by omega), show t + 1 - d = t - d + 1 by omega]; exact eC_up g h
    · unfold eLater; rw [if_neg (by omega)]; exact eC_late g hi (by omega)
    · unfold eLater at hx
      by_cases hlt : t < d
      · rw [if_pos hlt] at hx; cases hx; omega
      · rw [if_neg hlt] at hx; have := m.bd _ _ (by omega) hx; have := (eC_bd g hx).1; omega
    · unfold eLater at hx hy
      by_cases h1 : t + 1 < d
      · rw [if_pos (by omega)] at hx; rw [if_pos h1] at hy; cases hx; cases hy; omega
      · rw [if_neg h1] at hy
        by_cases h2 : t < d
        · rw [if_pos h2] at hx; cases hx; exact (eC_bd g hy).1
        · rw [if_neg h2] at hx; rw [show t + 1 - d = t - d + 1 by omega] at hy; exact eC_mono g hx hy
  · refine can_fin (F := fun t => if t < d then 0 else atC zs p inc (t - d)) (s := zs.length - p + d) (p := p) (c := inc) (fun t => ?_) (fun t ht => ?_) a1 a4 (by omega) ?_ (fun t ht => ?_) ?_ g.i1
    · unfold eLater
      by_cases ht : t < d
      · rw [if_pos ht, if_pos ht]
      · rw [if_neg ht, if_neg ht, eC_fin hi]
    · show (if t + p < d then 0 else atC zs p inc (t + p - d)) = (if t < d then 0 else atC zs p inc (t - d)) + inc
      rw [if_neg (by omega), if_neg (by omega), show t + p - d = t - d + p by omega, g.per hi (t - d) (by omega)]
    · show (0 : Int) ≤ if 0 < d then 0 else atC zs p inc (0 - d)
      split
      · omega
      · exact (g.bd hi _).1
    · show (if t < d then 0 else atC zs p inc (t - d)) ≤ if t + 1 < d then 0 else atC zs p inc (t + 1 - d)
      by_cases h1 : t + 1 < d
      · rw [if_pos (by omega), if_pos h1]; omega
      · rw [if_neg h1]
        by_cases h2 : t < d
        · rw [if_pos h2]; exact (g.bd hi _).1
        · rw [if_neg h2, show t + 1 - d = t - d + 1 by omega]; exact g.step _
    · show (if zs.length - p + d + p - 1 < d then 0 else atC zs p inc (zs.length - p + d + p - 1 - d)) ≤ 1073741824
      rw [if_neg (by omega)]
      have := m.at hi (t := zs.length - p + d + p - 1 - d) (by omega)
      omega

theorem mild_ahead (m : Mild zs p inc) {d : Nat} (hd : d ≤ 100) : ECan (eAhead d zs p inc) := by
  have g := m.good
  have a1 := g.p1; have a2 := g.p3; have a3 := m.len; have a4 := g.p2
  by_cases hi : InfC zs
  · refine can_of_inf (fun t h => ?_) ?_ (fun t x ht hx => ?_) (fun t x y hx hy => ?_)
    · unfold eAhead at *
      by_cases hlt : t = 0
      · rw [if_pos hlt] at h; cases h
      · rw [if_neg hlt] at h; rw [if_neg (by omega), show t + 1 + d = t + d + 1 by omega]; exact eC_up g h
    · unfold eAhead; rw [if_neg (by omega)]; exact eC_late g hi (by omega)
    · unfold eAhead at hx
      by_cases hlt : t = 0
      · rw [if_pos hlt] at hx; cases hx; omega
      · rw [if_neg hlt] at hx
        by_cases h4 : t + d ≤ 400
        · have := m.bd _ _ h4 hx; have := (eC_bd g hx).1; omega
        · rw [eC_late g hi (by omega)] at hx; cases hx
    · unfold eAhead at hx hy
      rw [if_neg (by omega)] at hy
      by_cases h2 : t = 0
      · rw [if_pos h2] at hx; cases hx; exact (eC_bd g hy).1
      · rw [if_neg h2] at hx; rw [show t + 1 + d = t + d + 1 by omega] at hy; exact eC_mono g hx hy
  · refine can_fin (F := fun t => if t = 0 then 0 else atC zs p inc (t + d)) (s := zs.length - p + 1) (p := p) (c := inc) (fun t => ?_) (fun t ht => ?_) a1 a4 (by omega) ?_ (fun t ht => ?_) ?_ g.i1
    · unfold eAhead
      by_cases ht : t = 0
      · rw [if_pos ht, if_pos ht]
      · rw [if_neg ht, if_neg ht, eC_fin hi]
    · show (if t + p = 0 then 0 else atC zs p inc (t + p + d)) = (if t = 0 then 0 else atC zs p inc (t + d)) + inc
      rw [if_neg (by omega), if_neg (by omega), show t + p + d = t + d + p by omega, g.per hi (t + d) (by omega)]
    · show (0 : Int) ≤ if 0 = 0 then 0 else _
      rw [if_pos rfl]; omega
    · show (if t = 0 then 0 else atC zs p inc (t + d)) ≤ if t + 1 = 0 then 0 else atC zs p inc (t + 1 + d)
      rw [if_neg (show ¬ t + 1 = 0 by omega)]
      split
      · exact (g.bd hi _).1
      · rw [show t + 1 + d = t + d + 1 by omega]; exact g.step _
    · show (if zs.length - p + 1 + p - 1 = 0 then 0 else atC zs p inc (zs.length - p + 1 + p - 1 + d)) ≤ 1073741824
      rw [if_neg (by omega)]
      have := m.at hi (t := zs.length - p + 1 + p - 1 + d) (by omega)
      omega

theorem mild_lower (m : Mild zs p inc) {c : Int} (h0 : 0 ≤ c) (hc : c ≤ 20) (hl : ¬ InfC zs → inc = 0 ∨ ∀ t, 250 ≤ t → 20 ≤ atC zs p inc t) : ECan (eLower c zs p inc) := by
  have g := m.good
  have a1 := g.p1; have a2 := g.p3; have a3 := m.len; have a4 := g.p2
  by_cases hi : InfC zs
  · refine can_of_inf (fun t h => ?_) ?_ (fun t x ht hx => ?_) (fun t x y hx hy => ?_)
    · unfold eLower at *
      cases h4 : eC zs p inc t with
      | none => rw [eC_up g h4]; rfl
      | some x => rw [h4] at h; cases h
    · unfold eLower; rw [eC_late g hi (by omega)]; rfl
    · unfold eLower at hx
      cases h4 : eC zs p inc t with
      | none => rw [h4] at hx; cases hx
      | some y =>
        rw [h4] at hx; cases hx
        have := m.bd t y (by omega) h4
        show 0 ≤ max (y - c) 0 ∧ max (y - c) 0 ≤ 1073741824
        omega
    · unfold eLower at hx hy
      cases h4 : eC zs p inc t with
      | none => rw [h4] at hx; cases hx
      | some u =>
        cases h5 : eC zs p inc (t + 1) with
        | none => rw [h5] at hy; cases hy
        | some v =>
          rw [h4] at hx; cases hx; rw [h5] at hy; cases hy
          have := eC_mono g h4 h5
          show max (u - c) 0 ≤ max (v - c) 0
          omega
  · have hE : ∀ t, eLower c zs p inc t = some (max (atC zs p inc t - c) 0) := fun t => by unfold eLower; rw [eC_fin hi]; rfl
    have hmo : ∀ t, max (atC zs p inc t - c) 0 ≤ max (atC zs p inc (t + 1) - c) 0 := fun t => by have := g.step t; omega
    have hz : 0 ≤ max (atC zs p inc 0 - c) 0 := by omega
    rcases hl hi with h | h
    · subst h
      refine can_fin (F := fun t => max (atC zs p 0 t - c) 0) (s := zs.length - p) (p := p) (c := 0) hE (fun t ht => ?_) a1 a4 (by omega) hz (fun t _ => hmo t) ?_ (by omega)
      · have := g.per hi t ht
        show max (atC zs p 0 (t + p) - c) 0 = max (atC zs p 0 t - c) 0 + 0
        omega
      · have := m.at hi (t := zs.length - p + p - 1) (by omega)
        show max (atC zs p 0 (zs.length - p + p - 1) - c) 0 ≤ 1073741824
        omega
    · refine can_fin (F := fun t => max (atC zs p inc t - c) 0) (s := 250) (p := p) (c := inc) hE (fun t ht => ?_) a1 a4 (by omega) hz (fun t _ => hmo t) ?_ g.i1
      · have e := g.per hi t (by omega)
        have := h t ht
        have := h (t + p) (by omega)
        show max (atC zs p inc (t + p) - c) 0 = max (atC zs p inc t - c) 0 + inc
        omega
      · have := m.at hi (t := 250 + p - 1) (by omega)
        show max (atC zs p inc (250 + p - 1) - c) 0 ≤ 1073741824
        omega
end

end Go.Proofs.Ytenfhjmaljleoaa

namespace Go.Proofs.Ytenfhjmaljleoaa

/-- From tick 16 on periodic by 24 ticks (or infinite), not decreasing, small up to tick 400. -/
structure Nice (K : Int) (E : Nat → Option Int) : Prop where
  up : ∀ t, E t = none → E (t + 1) = none
  mono : ∀ t x y, E t = some x → E (t + 1) = some y → x ≤ y
  bd : ∀ t x, t ≤ 400 → E t = some x → 0 ≤ x ∧ x ≤ K
  tail : (∀ t, 16 ≤ t → E t = none) ∨ ((∀ t, E t = some (encF E t)) ∧ ∃ c, Per (encF E) 16 24 c)

theorem encF_some {E : Nat → Option Int} {t : Nat} {x : Int} (h : E t = some x) : encF E t = x := by unfold encF; rw [h]; rfl
theorem encF_none {E : Nat → Option Int} {t : Nat} (h : E t = none) : encF E t = infV := by unfold encF; rw [h]; rfl

theorem per_none {E : Nat → Option Int} (h : ∀ t, 16 ≤ t → E t = none) : Per (encF E) 16 24 0 := fun t ht => by rw [encF_none (h t ht), encF_none (h (t + 24) (by omega))]; omega

theorem Nice.can {K : Int} {E : Nat → Option Int} (h : Nice K E) (hK : K ≤ 1000000000) : ECan E := by
  rcases h.tail with hn | ⟨hs, c, hp⟩
  · exact can_of_inf h.up (hn 399 (by omega)) (fun t x ht hx => by have := h.bd t x (by omega) hx; omega) h.mono
  · have b : ∀ t, t ≤ 400 → 0 ≤ encF E t ∧ encF E t ≤ K := fun t ht => h.bd t _ ht (hs t)
    refine can_fin hs hp (by omega) (by omega) (by omega) (b 0 (by omega)).1 (fun t _ => h.mono t _ _ (hs t) (hs (t + 1))) ?_ ?_
    · have := b (16 + 24 - 1) (by omega); omega
    · have e := hp 16 (by omega)
      have := b 16 (by omega)
      have := b (16 + 24) (by omega)
      omega

theorem Nice.per {K : Int} {E : Nat → Option Int} (h : Nice K E) : ∃ c, Per (encF E) 16 24 c := by
  rcases h.tail with hn | ⟨_, h⟩
  · exact ⟨0, fun t ht => by rw [encF_none (hn t ht), encF_none (hn (t + 24) (by omega))]; omega⟩
  · exact h

/-- The normal form of such a function is short, and its period divides 24. -/
theorem Nice.short {K : Int} {E : Nat → Option Int} (h : Nice K E) {zs : List Int} {p : Nat} {inc : Int} (f : EForm zs p inc E) : zs.length ≤ 40 ∧ 24 % p = 0 ∧ p ≤ 24 := by
  obtain ⟨c, hp⟩ := h.per
  obtain ⟨_, _, s, hs, hn⟩ := f.form
  have a1 := hn.start_le hp (by omega)
  have a2 := hn.per_le hp (by omega)
  have a3 := (hn.divides hp).1
  exact ⟨by omega, a3, a2⟩

theorem Nice.mild {K : Int} {E : Nat → Option Int} (h : Nice K E) (hK : K ≤ 100000) {zs : List Int} {p : Nat} {inc : Int} (f : EForm zs p inc E) : Mild zs p inc := by
  have hs := h.short f
  refine ⟨f.1, by omega, fun t x ht hx => ?_⟩
  rw [f.2.1 t] at hx
  have := h.bd t x ht hx
  omega

/-- A curve's values are so, if its period divides 24 and it is short. -/
theorem nice_of {K : Int} {zs : List Int} {p : Nat} {inc : Int} (g : Good zs p inc) (hl : zs.length ≤ 16) (hd : 24 % p = 0) (hb : ∀ t x, t ≤ 400 → eC zs p inc t = some x → x ≤ K) : Nice K (eC zs p inc) := by
  refine ⟨fun t => eC_up g, fun t x y => eC_mono g, fun t x ht hx => ⟨(eC_bd g hx).1, hb t x ht hx⟩, ?_⟩
  by_cases hi : InfC zs
  · exact .inl fun t ht => eC_late g hi (by omega)
  · refine .inr ⟨fun t => ?_, ((24 / p : Nat) : Int) * inc, ?_⟩
    · rw [encF_some (eC_fin hi p inc t)]; exact eC_fin hi p inc t
    · have e : encF (eC zs p inc) = atC zs p inc := funext fun t => encF_some (eC_fin hi p inc t)
      rw [e]
      have h1 := (g.per hi).mul (24 / p)
      have h2 : 24 / p * p = 24 := by have := Nat.div_add_mod 24 p; rw [hd, Nat.mul_comm] at this; omega
      rw [h2] at h1
      exact h1.mono (by have := g.p1; omega)

theorem drawn_nice {most : Nat} {zs : List Int} {p : Nat} {inc : Int} (o : OkCur most zs p inc) (hm : most ≤ 9) : Nice 10000 (eC zs p inc) :=
  nice_of o.good (by have := o.few; omega) o.div fun _ _ ht hx => (drawn_400 o ht hx).2

theorem Nice.sum {K K' : Int} {E E' : Nat → Option Int} (h : Nice K E) (k : Nice K' E') : Nice (K + K') (fun t => oadd (E t) (E' t)) := by
  refine ⟨fun t hx => ?_, fun t x y hx hy => ?_, fun t x ht hx => ?_, ?_⟩
  · show oadd (E (t + 1)) (E' (t + 1)) = none
    replace hx : oadd (E t) (E' t) = none := hx
    cases h1 : E t with
    | none => rw [h.up t h1, oadd_none_l]
    | some u =>
      cases h2 : E' t with
      | none => rw [k.up t h2, oadd_none_r]
      | some v => rw [h1, h2] at hx; cases hx
  · obtain ⟨x1, x2, h1, h2, rfl⟩ := both_some hx
    obtain ⟨y1, y2, k1, k2, rfl⟩ := both_some hy
    have := h.mono t _ _ h1 k1
    have := k.mono t _ _ h2 k2
    omega
  · obtain ⟨x1, x2, h1, h2, rfl⟩ := both_some hx
    have := h.bd t _ ht h1
    have := k.bd t _ ht h2
    omega
  · rcases h.tail with hn | ⟨hs, c, hp⟩
    · exact .inl fun t ht => by show oadd (E t) (E' t) = none; rw [hn t ht, oadd_none_l]
    rcases k.tail with kn | ⟨ks, d, kp⟩
    · exact .inl fun t ht => by show oadd (E t) (E' t) = none; rw [kn t ht, oadd_none_r]
    have e : ∀ t, oadd (E t) (E' t) = some (encF E t + encF E' t) := fun t => by rw [hs t, ks t]; rfl
    have e2 : encF (fun t => oadd (E t) (E' t)) = fun t => encF E t + encF E' t := funext fun t => encF_some (e t)
    refine .inr ⟨fun t => by rw [e2]; exact e t, c + d, fun t ht => ?_⟩
    rw [e2]
    have := hp t ht
    have := kp t ht
    show encF E (t + 24) + encF E' (t + 24) = encF E t + encF E' t + (c + d)
    omega

/-- What is the curve of such a function has such values. -/
theorem Nice.of {K : Int} {E : Nat → Option Int} (h : Nice K E) {zs : List Int} {p : Nat} {inc : Int} (he : ∀ t, eC zs p inc t = E t) : Nice K (eC zs p inc) := by
  rw [show eC zs p inc = E from funext he]; exact h

theorem Nice.le {K K' : Int} {E : Nat → Option Int} (h : Nice K E) (hK : K ≤ K') : Nice K' E := ⟨h.up, h.mono, fun t x ht hx => by have := h.bd t x ht hx; omega, h.tail⟩

/-- The normal form's period divides 24 if from some tick on 24 is a period. -/
theorem NormC.div24 {zs zs' : List Int} {p p' : Nat} {inc inc' : Int} (g : Good zs p inc) (h : NormC zs p inc zs' p' inc') {s : Nat} {c : Int} (hp : Per (encF (eC zs p inc)) s 24 c) : 24 % p' = 0 := by
  obtain ⟨_, _, _, _, hn⟩ := (h.eform g).form
  exact (hn.divides hp).1

/-- The least common multiple of two divisors of 24 is one. -/
theorem lcm24 {a b : Nat} (ha : 24 % a = 0) (hb : 24 % b = 0) : 24 % (a / Nat.gcd a b * b) = 0 := by
  have e : a / Nat.gcd a b * b = Nat.lcm a b := by
    rw [Nat.lcm, Nat.mul_div_right_comm (Nat.gcd_dvd_left a b)]
  rw [e]
  exact Nat.mod_eq_zero_of_dvd (Nat.lcm_dvd (Nat.dvd_of_mod_eq_zero ha) (Nat.dvd_of_mod_eq_zero hb))

/-! ## The same from some tick on: minima and maxima -/

/-- In the end periodic by 24 ticks, and infinite or not. -/
def Day (E : Nat → Option Int) : Prop := ∃ s c, Per (encF E) s 24 c ∧ ((∀ t, s ≤ t → E t = none) ∨ ∀ t, s ≤ t → E t = some (encF E t))

theorem Day.per {E : Nat → Option Int} (h : Day E) : ∃ s c, Per (encF E) s 24 c := by obtain ⟨s, c, h, _⟩ := h; exact ⟨s, c, h⟩

theorem Nice.day {K : Int} {E : Nat → Option Int} (h : Nice K E) : Day E := by
  obtain ⟨c, hp⟩ := h.per
  rcases h.tail with hn | ⟨hs, _⟩
  · exact ⟨16, c, hp, .inl hn⟩
  · exact ⟨16, c, hp, .inr fun t _ => hs t⟩

theorem Day.of {E : Nat → Option Int} (h : Day E) {zs : List Int} {p : Nat} {inc : Int} (he : ∀ t, eC zs p inc t = E t) : Day (eC zs p inc) := by rw [show eC zs p inc = E from funext he]; exact h

theorem day_none {E : Nat → Option Int} {s : Nat} (h : ∀ t, s ≤ t → E t = none) : Day E :=
  ⟨s, 0, fun t ht => by rw [encF_none (h t ht), encF_none (h (t + 24) (by omega))]; omega, .inl h⟩

theorem day_some {E : Nat → Option Int} {F : Nat → Int} {s : Nat} {c : Int} (h : ∀ t, s ≤ t → E t = some (F t)) (hp : Per F s 24 c) : Day E :=
  ⟨s, c, fun t ht => by rw [encF_some (h t ht), encF_some (h (t + 24) (by omega))]; exact hp t ht, .inr fun t ht => by rw [encF_some (h t ht)]; exact h t ht⟩

theorem Day.min {E E' : Nat → Option Int} (h : Day E) (k : Day E') : Day (fun t => omin (E t) (E' t)) := by
  obtain ⟨s, c, hp, hn | hs⟩ := h
  · obtain ⟨s', c', kp, kn | ks⟩ := k
    · exact day_none (s := max s s') fun t ht => by show omin (E t) (E' t) = none; rw [hn t (by omega), kn t (by omega)]; rfl
    · exact day_some (s := max s s') (F := encF E') (fun t ht => by show omin (E t) (E' t) = _; rw [hn t (by omega), ks t (by omega)]; rfl) (kp.mono (by omega))
  · obtain ⟨s', c', kp, kn | ks⟩ := k
    · exact day_some (s := max s s') (F := encF E) (fun t ht => by show omin (E t) (E' t) = _; rw [hs t (by omega), kn t (by omega)]; rfl) (hp.mono (by omega))
    · obtain ⟨S, hS⟩ := min_late (hp.mono (show s ≤ s + s' by omega)) (kp.mono (show s' ≤ s + s' by omega)) (show 1 ≤ 24 by omega)
      exact day_some (s := s + s' + S) (F := minF (encF E) (encF E')) (fun t ht => by
        show omin (E t) (E' t) = some (Min.min (encF E t) (encF E' t))
        have e1 := hs t (by omega)
        have e2 := ks t (by omega)
        rw [e1, e2]; rfl) (hS.mono (by omega))

theorem Day.max {E E' : Nat → Option Int} (h : Day E) (k : Day E') : Day (fun t => omax (E t) (E' t)) := by
  obtain ⟨s, c, hp, hn | hs⟩ := h
  · exact day_none (s := s) fun t ht => by show omax (E t) (E' t) = none; rw [hn t (by omega), omax_none_l]
  · obtain ⟨s', c', kp, kn | ks⟩ := k
    · exact day_none (s := s') fun t ht => by show omax (E t) (E' t) = none; rw [kn t (by omega), omax_none_r]
    · obtain ⟨S, hS⟩ := max_late (hp.mono (show s ≤ s + s' by omega)) (kp.mono (show s' ≤ s + s' by omega)) (show 1 ≤ 24 by omega)
      exact day_some (s := s + s' + S) (F := maxF (encF E) (encF E')) (fun t ht => by
        show omax (E t) (E' t) = some (Max.max (encF E t) (encF E' t))
        have e1 := hs t (by omega)
        have e2 := ks t (by omega)
        rw [e1, e2]; rfl) (hS.mono (by omega))

theorem Day.sum {E E' : Nat → Option Int} (h : Day E) (k : Day E') : Day (fun t => oadd (E t) (E' t)) := by
  obtain ⟨s, c, hp, hn | hs⟩ := h
  · exact day_none (s := s) fun t ht => by show oadd (E t) (E' t) = none; rw [hn t ht, oadd_none_l]
  · obtain ⟨s', c', kp, kn | ks⟩ := k
    · exact day_none (s := s') fun t ht => by show oadd (E t) (E' t) = none; rw [kn t ht, oadd_none_r]
    · refine day_some (s := s + s') (F := fun t => encF E t + encF E' t) (c := c + c') (fun t ht => ?_) (fun t ht => ?_)
      · show oadd (E t) (E' t) = _
        have e1 := hs t (by omega)
        have e2 := ks t (by omega)
        rw [e1, e2]; rfl
      · have := hp t (by omega)
        have := kp t (by omega)
        show encF E (t + 24) + encF E' (t + 24) = encF E t + encF E' t + (c + c')
        omega

/-- The periods of the normal forms of two such curves have a multiple of at most 24. -/
theorem day_lcm {z1 z2 : List Int} {p1 p2 : Nat} {i1 i2 : Int} (g1 : Good z1 p1 i1) (g2 : Good z2 p2 i2) (h1 : Day (eC z1 p1 i1)) (h2 : Day (eC z2 p2 i2)) {y1 y2 : List Int} {q1 q2 : Nat} {j1 j2 : Int} (n1 : NormC z1 p1 i1 y1 q1 j1) (n2 : NormC z2 p2 i2 y2 q2 j2) : q1 / Nat.gcd q1 q2 * q2 ≤ 24 := by
  obtain ⟨s1, c1, k1⟩ := h1.per
  obtain ⟨s2, c2, k2⟩ := h2.per
  have a := n1.div24 g1 k1
  have b := n2.div24 g2 k2
  have := lcm24 a b
  exact Nat.le_of_dvd (by omega) (Nat.dvd_of_mod_eq_zero this)

/-! ## What a reduction needs -/

/-- Constant from tick 16 on, or at least 20 from tick 250 on. -/
def Low (E : Nat → Option Int) : Prop := Per (encF E) 16 24 0 ∨ ∀ t x, 250 ≤ t → E t = some x → 20 ≤ x

theorem drawn_low {most : Nat} {zs : List Int} {p : Nat} {inc : Int} (o : OkCur most zs p inc) (hm : most ≤ 9) : Low (eC zs p inc) := by
  have g := o.good
  have a1 := g.p1; have a2 := g.p3; have a3 := o.few; have a4 := o.p8; have a5 := g.i0
  by_cases hi : InfC zs
  · exact .inl fun t ht => by rw [encF_none (eC_late g hi (by omega)), encF_none (eC_late g hi (by omega))]; omega
  · by_cases h0 : inc = 0
    · subst h0
      have e : encF (eC zs p 0) = atC zs p 0 := funext fun t => encF_some (eC_fin hi p 0 t)
      refine .inl ?_
      rw [e]
      have h1 := (g.per hi).mul (24 / p)
      have h2 : 24 / p * p = 24 := by have := Nat.div_add_mod 24 p; rw [o.div, Nat.mul_comm] at this; omega
      rw [h2, Int.mul_zero] at h1
      exact h1.mono (by omega)
    · refine .inr fun t x ht hx => ?_
      rw [eC_fin hi] at hx; cases hx
      have h1 := ((g.per hi).mul 29) 16 (by omega)
      have h2 := g.up (t - (16 + 29 * p)) (16 + 29 * p)
      rw [show 16 + 29 * p + (t - (16 + 29 * p)) = t by omega] at h2
      have h3 := (g.bd hi 16).1
      have h4 : ((29 : Nat) : Int) * 1 ≤ ((29 : Nat) : Int) * inc := Int.mul_le_mul_of_nonneg_left (by omega) (by omega)
      omega

theorem drawn_low2 {most : Nat} {zs : List Int} {p : Nat} {inc : Int} (o : OkCur most zs p inc) (hm : most ≤ 9) (hi : ¬ InfC zs) : inc = 0 ∨ ∀ t, 250 ≤ t → 20 ≤ atC zs p inc t := by
  have g := o.good
  have a1 := g.p1; have a2 := g.p3; have a3 := o.few; have a4 := o.p8; have a5 := g.i0
  by_cases h0 : inc = 0
  · exact .inl h0
  · refine .inr fun t ht => ?_
    have h1 := ((g.per hi).mul 29) 16 (by omega)
    have h2 := g.up (t - (16 + 29 * p)) (16 + 29 * p)
    rw [show 16 + 29 * p + (t - (16 + 29 * p)) = t by omega] at h2
    have h3 := (g.bd hi 16).1
    have h4 : ((29 : Nat) : Int) * 1 ≤ ((29 : Nat) : Int) * inc := Int.mul_le_mul_of_nonneg_left (by omega) (by omega)
    omega

theorem Low.sum {K K' : Int} {E E' : Nat → Option Int} (h : Low E) (k : Low E') (n : Nice K E) (m : Nice K' E') (h0 : ∀ t x, E t = some x → 0 ≤ x) (k0 : ∀ t x, E' t = some x → 0 ≤ x) : Low (fun t => oadd (E t) (E' t)) := by
  rcases h with h | h
  · rcases k with k | k
    · rcases n.tail with nn | ⟨ns, _⟩
      · exact .inl (per_none fun t ht => by show oadd (E t) (E' t) = none; rw [nn t ht, oadd_none_l])
      rcases m.tail with mn | ⟨ms, _⟩
      · exact .inl (per_none fun t ht => by show oadd (E t) (E' t) = none; rw [mn t ht, oadd_none_r])
      have e : ∀ t, oadd (E t) (E' t) = some (encF E t + encF E' t) := fun t => by rw [ns t, ms t]; rfl
      have e2 : encF (fun t => oadd (E t) (E' t)) = fun t => encF E t + encF E' t := funext fun t => encF_some (e t)
      refine .inl fun t ht => ?_
      rw [e2]
      have := h t ht
      have := k t ht
      show encF E (t + 24) + encF E' (t + 24) = encF E t + encF E' t + 0
      omega
    · refine .inr fun t x ht hx => ?_
      obtain ⟨y, z, h1, h2, rfl⟩ := both_some hx
      have := h0 t y h1
      have := k t z ht h2
      omega
  · refine .inr fun t x ht hx => ?_
    obtain ⟨y, z, h1, h2, rfl⟩ := both_some hx
    have := k0 t z h2
    have := h t y ht h1
    omega

theorem Low.form {E : Nat → Option Int} (h : Low E) {zs : List Int} {p : Nat} {inc : Int} (f : EForm zs p inc E) (hf : ¬ InfC zs) : inc = 0 ∨ ∀ t, 250 ≤ t → 20 ≤ atC zs p inc t := by
  rcases h with h | h
  · obtain ⟨_, _, s, _, hn⟩ := f.form
    obtain ⟨h1, h2⟩ := hn.divides h
    have hp := hn.pos
    have h3 : p ≤ 24 := hn.per_le h (by omega)
    have h4 : 1 ≤ 24 / p := (Nat.one_le_div_iff (by omega)).2 h3
    rcases Int.mul_eq_zero.1 h2.symm with h5 | h5
    · omega
    · exact .inl h5
  · refine .inr fun t ht => h t _ ht ?_
    rw [← f.2.1 t, eC_fin hf]

/-! ## Greater curves have greater results -/

theorem ole_later {zs ys : List Int} {p q d : Nat} {inc jnc : Int} (h : ∀ t, ole (eC zs p inc t) (eC ys q jnc t)) (t : Nat) : ole (eLater d zs p inc t) (eLater d ys q jnc t) := by
  unfold eLater
  split
  · exact ole_refl _
  · exact h _
theorem ole_ahead {zs ys : List Int} {p q d : Nat} {inc jnc : Int} (h : ∀ t, ole (eC zs p inc t) (eC ys q jnc t)) (t : Nat) : ole (eAhead d zs p inc t) (eAhead d ys q jnc t) := by
  unfold eAhead
  split
  · exact ole_refl _
  · exact h _
theorem ole_lower {zs ys : List Int} {p q : Nat} {inc jnc c : Int} (h : ∀ t, ole (eC zs p inc t) (eC ys q jnc t)) (t : Nat) : ole (eLower c zs p inc t) (eLower c ys q jnc t) :=
  ole_omap (fun x y hxy => by omega) (h t)
theorem ole_more {zs ys xs : List Int} {p q r : Nat} {inc jnc knc : Int} (k : Good ys q jnc) (he : ∀ t, eC xs r knc t = eSum zs p inc ys q jnc t) (t : Nat) : ole (eC zs p inc t) (eC xs r knc t) := by
  rw [he]; exact ole_oadd fun y hy => (eC_bd k hy).1
/-- Two curves made so compare so. -/
theorem exc_of {E E' : Nat → Option Int} (h : ∀ t, ole (E t) (E' t)) {zs ys : List Int} {p q : Nat} {inc jnc : Int} (f : EForm zs p inc E) (k : EForm ys q jnc E') : ExcP (dC zs p inc ys q jnc) 0 false :=
  excP_of fun t => by rw [f.2.1 t, k.2.1 t]; exact h t

end Go.Proofs.Ytenfhjmaljleoaa

namespace Go.Proofs.Ytenfhjmaljleoaa

/-! ## Sums, minima and maxima distribute -/

theorem omin_comm (a b : Option Int) : omin a b = omin b a := by
  cases a <;> cases b <;> try rfl
  rename_i x y
  show some (min x y) = some (min y x)
  congr 1; omega
theorem oadd_omax (a b c : Option Int) : oadd a (omax b c) = omax (oadd a b) (oadd a c) := by
  cases a <;> cases b <;> cases c <;> try rfl
  rename_i x y z
  show some (x + max y z) = some (max (x + y) (x + z))
  congr 1; omega
theorem oadd_omin (a b c : Option Int) : oadd a (omin b c) = omin (oadd a b) (oadd a c) := by
  cases a <;> cases b <;> cases c <;> try rfl
  rename_i x y z
  show some (x + min y z) = some (min (x + y) (x + z))
  congr 1; omega
theorem omin_omax (a b c : Option Int) : omin a (omax b c) = omax (omin a b) (omin a c) := by
  cases a with
  | none => cases b <;> cases c <;> rfl
  | some x =>
    cases b with
    | none =>
      cases c with
      | none => show some x = some (max x x); congr 1; omega
      | some z => show some x = some (max x (min x z)); congr 1; omega
    | some y =>
      cases c with
      | none => show some x = some (max (min x y) x); congr 1; omega
      | some z => show some (min x (max y z)) = some (max (min x y) (min x z)); congr 1; omega
end Go.Proofs.Ytenfhjmaljleoaa
