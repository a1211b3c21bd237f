/- The mathematics of curves that are made from their values: whether there is such a curve, and which. An infinite value is none. Nothing here speaks of the program. By the verifier's side. -/
import Derived.Test.YtknimlpdpgpliaaLCurMCurNOrdM
namespace Go.Proofs.Ytknimlpdpgpliaa

/-! ## The least period and start of a function -/

theorem normOf_ex {f : Nat → Int} {s P : Nat} {c : Int} (h : Per f s P c) (hP : 1 ≤ P) : ∃ s' p c', NormOf f s' p c' := by
  obtain ⟨p, ⟨h1, s1, c1, hp⟩, hl⟩ := least_ex (P := fun q => 1 ≤ q ∧ ∃ s c, Per f s q c) ⟨P, hP, s, c, h⟩
  obtain ⟨s2, h2, hs⟩ := least_ex (P := fun s => Per f s p c1) ⟨s1, hp⟩
  refine ⟨s2, p, c1, h2, h1, fun q hq hlt s' c' hk => hl q hlt ⟨hq, s', c', hk⟩, ?_⟩
  rcases Nat.eq_zero_or_pos s2 with h0 | hpos
  · exact .inl h0
  · refine .inr fun he => hs (s2 - 1) (by omega) fun t ht => ?_
    by_cases hlt : t = s2 - 1
    · rw [hlt]; exact he
    · exact h2 t (by omega)

theorem NormOf.start_le {f : Nat → Int} {s p s' P : Nat} {c I : Int} (h : NormOf f s p c) (k : Per f s' P I) (hP : 1 ≤ P) : s ≤ s' := by
  rcases h.start with h0 | hn
  · omega
  · exact Nat.le_of_not_lt fun hlt => hn ((k.any hP h.per) (s - 1) (by omega))

theorem NormOf.per_le {f : Nat → Int} {s p s' P : Nat} {c I : Int} (h : NormOf f s p c) (k : Per f s' P I) (hP : 1 ≤ P) : p ≤ P :=
  Nat.le_of_not_lt fun hlt => h.least P hP hlt _ _ k

theorem Good.perAny {zs : List Int} {p : Nat} {inc : Int} (g : Good zs p inc) : Per (atC zs p inc) (zs.length - p) p inc := by
  by_cases hi : zs.getD (zs.length - 1) 0 = infV
  · have h3 := g.p3
    obtain ⟨rfl, rfl⟩ := g.tailI hi
    intro t ht
    rw [atC_inf hi (by omega) (by omega), atC_inf hi (by omega) (by omega)]; omega
  · exact g.per hi

/-- A curve in normal form with the values F. -/
def Form (zs : List Int) (p : Nat) (inc : Int) (F : Nat → Int) : Prop :=
  Good zs p inc ∧ (∀ t, atC zs p inc t = F t) ∧ ∃ s, zs.length = s + p ∧ NormOf F s p inc

def CanBe (F : Nat → Int) : Prop := ∃ zs p inc, Good zs p inc ∧ ∀ t, atC zs p inc t = F t

theorem Form.unique {zs ys : List Int} {p q : Nat} {inc jnc : Int} {F : Nat → Int} (h : Form zs p inc F) (k : Form ys q jnc F) : zs = ys ∧ p = q ∧ inc = jnc := by
  obtain ⟨g, hv, s, hs, hn⟩ := h
  obtain ⟨g', kv, s', ks, kn⟩ := k
  obtain ⟨rfl, rfl, rfl⟩ := hn.unique kn
  refine ⟨list_ext_getD (by omega) fun i hi => ?_, rfl, rfl⟩
  rw [← atC_lt (p := p) (inc := inc) hi, ← atC_lt (zs := ys) (p := p) (inc := inc) (by omega), hv, kv]

theorem Good.form {ys : List Int} {q : Nat} {j : Int} (g : Good ys q j) {F : Nat → Int} (he : ∀ t, atC ys q j t = F t) {s p : Nat} {c : Int} (hn : NormOf F s p c) :
    s + p ≤ ys.length ∧ p ≤ q ∧ NormC ys q j (firsts F (s + p)) p c ∧ Form (firsts F (s + p)) p c F := by
  have hpe : Per F (ys.length - q) q j := fun t ht => by rw [← he, ← he]; exact g.perAny t ht
  have hs := hn.start_le hpe g.p1
  have hp := hn.per_le hpe g.p1
  have h3 := g.p3
  have h1 := g.p1
  have hp1 := hn.pos
  have htk : firsts F (s + p) = ys.take (s + p) := list_ext_getD (by rw [firsts_length, List.length_take]; omega) fun i hi => by
    rw [firsts_length] at hi
    rw [firsts_getD _ _ _ hi, getD_take hi, ← he, atC_lt (by omega)]
  have hN : NormC ys q j (firsts F (s + p)) p c := by
    rw [htk]
    by_cases hi : ys.getD (ys.length - 1) 0 = infV
    · obtain ⟨rfl, rfl⟩ := g.tailI hi
      obtain rfl : p = 1 := by omega
      have hc : c = 0 := (hn.per.mono hs).same hpe
      subst hc
      have hF : ∀ k, F (s + k) = F s := fun k => by
        induction k with
        | zero => rfl
        | succ k ih => have := hn.per (s + k) (by omega); rw [show s + (k + 1) = s + k + 1 by omega]; omega
      have hFs : F s = infV := by
        have := hF (ys.length - 1 - s)
        rw [show s + (ys.length - 1 - s) = ys.length - 1 by omega, ← he, atC_lt (by omega), hi] at this
        exact this.symm
      refine .inr ⟨s, by omega, by rw [← atC_lt (p := 1) (inc := 0) (show s < ys.length by omega), he]; exact hFs, fun k hk hx => ?_, rfl, rfl, rfl⟩
      rcases hn.start with h0 | hne
      · omega
      · have a1 := g.le (show k ≤ s - 1 by omega) (by omega)
        have a2 := g.val (s - 1) (by omega)
        have a3 := he (s - 1)
        rw [atC_lt (by omega)] at a3
        apply hne
        rw [show s - 1 + 1 = s by omega, hFs, ← a3]
        unfold infV at *; omega
    · exact .inl ⟨hi, s, by rw [show atC ys q j = F from funext he]; exact hn, rfl, by omega, hp⟩
  have hv := hN.values g
  exact ⟨by omega, hp, hN, hN.good g, fun t => (hv t).trans (he t), s, firsts_length _ _, hn⟩

/-- The list that the search makes is the curve, if it is valid. -/
theorem form_of {F : Nat → Int} {s p : Nat} {c : Int} (hn : NormOf F s p c) (g : Good (firsts F (s + p)) p c) : Form (firsts F (s + p)) p c F := by
  have hl := firsts_length F (s + p)
  have hp1 := hn.pos
  refine ⟨g, ?_, s, hl, hn⟩
  by_cases hi : (firsts F (s + p)).getD ((firsts F (s + p)).length - 1) 0 = infV
  · obtain ⟨rfl, rfl⟩ := g.tailI hi
    have hF : ∀ k, F (s + k) = F s := fun k => by
      induction k with
      | zero => rfl
      | succ k ih => have := hn.per (s + k) (by omega); rw [show s + (k + 1) = s + k + 1 by omega]; omega
    have hFs : F s = infV := by rw [hl, show s + 1 - 1 = s by omega, firsts_getD _ _ _ (by omega)] at hi; exact hi
    intro t
    by_cases ht : t < s + 1
    · rw [atC_lt (by omega), firsts_getD _ _ _ ht]
    · rw [atC_inf hi (by omega) (by omega), show t = s + (t - s) by omega, hF, hFs]
  · have hper := atC_per (inc := c) hn.pos (show p ≤ (firsts F (s + p)).length by omega) hi
    rw [hl, show s + p - p = s by omega] at hper
    exact hper.ext hn.per hn.pos fun t ht => by rw [atC_lt (by omega), firsts_getD _ _ _ ht]

theorem no_form {F : Nat → Int} {s p : Nat} {c : Int} (hn : NormOf F s p c) (h : ¬ Good (firsts F (s + p)) p c) : ¬ CanBe F := by
  rintro ⟨ys, q, j, g, he⟩
  exact h (g.form he hn).2.2.2.1

theorem no_form_long {F : Nat → Int} {s p : Nat} {c : Int} (hn : NormOf F s p c) (h : 400 < s + p) : ¬ CanBe F :=
  no_form hn fun g => by have := g.few; rw [firsts_length] at this; omega

theorem CanBe.form {F : Nat → Int} (h : CanBe F) : ∃ zs p inc, Form zs p inc F := by
  obtain ⟨ys, q, j, g, he⟩ := h
  have hpe : Per F (ys.length - q) q j := fun t ht => by rw [← he, ← he]; exact g.perAny t ht
  obtain ⟨s, p, c, hn⟩ := normOf_ex hpe g.p1
  exact ⟨_, _, _, (g.form he hn).2.2.2⟩

theorem CanBe.per {F : Nat → Int} (h : CanBe F) : ∃ s p c, s ≤ 399 ∧ 1 ≤ p ∧ Per F s p c := by
  obtain ⟨ys, q, j, g, he⟩ := h
  have h1 := g.few; have h2 := g.p1; have h3 := g.p3
  exact ⟨ys.length - q, q, j, by omega, h2, fun t ht => by rw [← he, ← he]; exact g.perAny t ht⟩

/-! ## Values that may be infinite -/

def enc : Option Int → Int
  | none => infV
  | some x => x

open Classical in
noncomputable def eC (zs : List Int) (p : Nat) (inc : Int) (t : Nat) : Option Int :=
  if InfC zs ∧ atC zs p inc t = infV then none else some (atC zs p inc t)

theorem enc_eC (zs : List Int) (p : Nat) (inc : Int) (t : Nat) : enc (eC zs p inc t) = atC zs p inc t := by
  unfold eC
  split
  · rename_i h; exact h.2.symm
  · rfl

theorem eC_fin {zs : List Int} (h : ¬ InfC zs) (p : Nat) (inc : Int) (t : Nat) : eC zs p inc t = some (atC zs p inc t) := by
  unfold eC; rw [if_neg (fun hx => h hx.1)]

theorem eC_none {zs : List Int} {p : Nat} {inc : Int} {t : Nat} : eC zs p inc t = none ↔ InfC zs ∧ atC zs p inc t = infV := by
  unfold eC
  split
  · rename_i h; exact ⟨fun _ => h, fun _ => rfl⟩
  · rename_i h; exact ⟨(fun hx => by cases hx), fun hx => absurd hx h⟩

/-- In an infinite curve each value is none or small. -/
theorem eC_inf {zs : List Int} {p : Nat} {inc : Int} (g : Good zs p inc) (hi : InfC zs) (t : Nat) : eC zs p inc t = none ∨ ∃ x, eC zs p inc t = some x ∧ atC zs p inc t = x ∧ 0 ≤ x ∧ x ≤ 1073741824 := by
  rcases g.inf_small hi t with h | h
  · exact .inl (eC_none.2 ⟨hi, h⟩)
  · refine .inr ⟨_, ?_, rfl, h.1, h.2⟩
    unfold eC; rw [if_neg]
    intro hx; have := hx.2; unfold infV at this; omega

theorem eC_late {zs : List Int} {p : Nat} {inc : Int} (g : Good zs p inc) (hi : InfC zs) {t : Nat} (ht : zs.length - 1 ≤ t) : eC zs p inc t = none := by
  have h1 := g.p1; have h3 := g.p3
  exact eC_none.2 ⟨hi, atC_inf hi ht (by omega)⟩

theorem eC_up {zs : List Int} {p : Nat} {inc : Int} (g : Good zs p inc) {t : Nat} (h : eC zs p inc t = none) : eC zs p inc (t + 1) = none := by
  obtain ⟨hi, ha⟩ := eC_none.1 h
  refine eC_none.2 ⟨hi, ?_⟩
  have h1 := g.step t
  rcases g.inf_small hi (t + 1) with h2 | h2
  · exact h2
  · rw [ha] at h1; unfold infV at h1; omega

theorem eC_bd {zs : List Int} {p : Nat} {inc : Int} (g : Good zs p inc) {t : Nat} {x : Int} (h : eC zs p inc t = some x) : 0 ≤ x ∧ x ≤ 1073741824 * ((t : Int) + 1) ∧ atC zs p inc t = x := by
  by_cases hi : InfC zs
  · rcases eC_inf g hi t with h2 | ⟨y, h2, h3, h4, h5⟩
    · rw [h2] at h; cases h
    · rw [h2] at h; cases h; omega
  · rw [eC_fin hi] at h; cases h
    have := g.bd hi t
    omega

/-- What the values of a curve that is to be made keep to: what is infinite stays so, and is told from what is finite. -/
def Tame (E : Nat → Option Int) : Prop :=
  (∀ t, E t = none → E (t + 1) = none) ∧ ((∃ u, 400 ≤ u ∧ ∃ y, E u = some y ∧ ¬ y = infV) ∨ (∀ t x, E t = some x → ¬ x = infV))

/-- A curve in normal form with these values. -/
def EForm (zs : List Int) (p : Nat) (inc : Int) (E : Nat → Option Int) : Prop :=
  Good zs p inc ∧ (∀ t, eC zs p inc t = E t) ∧ ∃ s, zs.length = s + p ∧ NormOf (atC zs p inc) s p inc

def ECan (E : Nat → Option Int) : Prop := ∃ zs p inc, Good zs p inc ∧ ∀ t, eC zs p inc t = E t

def encF (E : Nat → Option Int) (t : Nat) : Int := enc (E t)

theorem stays {E : Nat → Option Int} (h : ∀ t, E t = none → E (t + 1) = none) {t : Nat} (h0 : E t = none) (k : Nat) : E (t + k) = none := by
  induction k with
  | zero => exact h0
  | succ k ih => exact h (t + k) ih

theorem eform_of {E : Nat → Option Int} (hT : Tame E) {zs : List Int} {p : Nat} {inc : Int} (h : Form zs p inc (encF E)) : EForm zs p inc E := by
  obtain ⟨g, hv, s, hs, hn⟩ := h
  refine ⟨g, fun t => ?_, s, hs, by rw [show atC zs p inc = encF E from funext hv]; exact hn⟩
  have hf := g.few; have h1 := g.p1; have h3 := g.p3
  cases hE : E t with
  | none =>
    have ha : atC zs p inc t = infV := by rw [hv]; unfold encF; rw [hE]; rfl
    refine eC_none.2 ⟨Classical.byContradiction fun hi => ?_, ha⟩
    have hall : ∀ k, atC zs p inc (t + k) = infV := fun k => by rw [hv]; unfold encF; rw [stays hT.1 hE]; rfl
    have hper := g.per hi
    have e1 := hper (t + zs.length) (by omega)
    rw [hall, show t + zs.length + p = t + (zs.length + p) by omega, hall] at e1
    have hi0 : inc = 0 := by omega
    have e2 := (hper.mul t) (zs.length - p) (Nat.le_refl _)
    rw [hi0, Int.mul_zero, Int.add_zero] at e2
    have hle : t ≤ t * p := Nat.le_mul_of_pos_right _ (by omega)
    rw [hi0] at hall
    rw [show zs.length - p + t * p = t + (zs.length - p + t * p - t) by omega, hall, atC_lt (by omega)] at e2
    have := g.small hi (show zs.length - p < zs.length by omega)
    unfold infV at e2; omega
  | some x =>
    have ha : atC zs p inc t = x := by rw [hv]; unfold encF; rw [hE]; rfl
    unfold eC
    rw [if_neg, ha]
    rintro ⟨hi, hx⟩
    rcases hT.2 with ⟨u, hu, y, hy, hne⟩ | h
    · apply hne
      have e : atC zs p inc u = y := by rw [hv]; unfold encF; rw [hy]; rfl
      rw [← e]; exact atC_inf hi (by omega) (by omega)
    · exact h t x hE (by rw [← ha]; exact hx)

theorem ECan.can {E : Nat → Option Int} (h : ECan E) : CanBe (encF E) := by
  obtain ⟨zs, p, inc, g, he⟩ := h
  exact ⟨zs, p, inc, g, fun t => by rw [← enc_eC, he]; rfl⟩

theorem EForm.form {zs : List Int} {p : Nat} {inc : Int} {E : Nat → Option Int} (h : EForm zs p inc E) : Form zs p inc (encF E) := by
  obtain ⟨g, he, s, hs, hn⟩ := h
  have hv : ∀ t, atC zs p inc t = encF E t := fun t => by rw [← enc_eC, he]; rfl
  exact ⟨g, hv, s, hs, by rw [← show atC zs p inc = encF E from funext hv]; exact hn⟩

theorem EForm.unique {zs ys : List Int} {p q : Nat} {inc jnc : Int} {E : Nat → Option Int} (h : EForm zs p inc E) (k : EForm ys q jnc E) : zs = ys ∧ p = q ∧ inc = jnc :=
  h.form.unique k.form

theorem EForm.can {zs : List Int} {p : Nat} {inc : Int} {E : Nat → Option Int} (h : EForm zs p inc E) : ECan E := ⟨zs, p, inc, h.1, h.2.1⟩

/-- The normal form of a valid curve. -/
theorem NormC.eform {zs zs' : List Int} {p p' : Nat} {inc inc' : Int} (g : Good zs p inc) (h : NormC zs p inc zs' p' inc') : EForm zs' p' inc' (eC zs p inc) := by
  have hv := h.values g
  have g' := h.good g
  have hfin := h.fin_iff g
  have he : ∀ t, eC zs' p' inc' t = eC zs p inc t := fun t => by
    have e : InfC zs' ↔ InfC zs := hfin
    unfold eC
    rw [hv t]
    by_cases hi : InfC zs
    · have hi' := e.2 hi
      by_cases ha : atC zs p inc t = infV
      · rw [if_pos ⟨hi', ha⟩, if_pos ⟨hi, ha⟩]
      · rw [if_neg (fun hx => ha hx.2), if_neg (fun hx => ha hx.2)]
    · rw [if_neg (fun hx => hi (e.1 hx.1)), if_neg (fun hx => hi hx.1)]
  refine ⟨g', he, ?_⟩
  rw [show atC zs' p' inc' = atC zs p inc from funext hv]
  obtain ⟨s, p2, c2, hn⟩ := normOf_ex g.perAny g.p1
  obtain ⟨_, _, hN, hF⟩ := g.form (fun _ => rfl) hn
  obtain ⟨rfl, rfl, rfl⟩ := h.canon g g hN (fun _ => rfl)
  exact ⟨s, firsts_length _ _, hn⟩

/-! ## Curves from their values -/

theorem good_fin {F : Nat → Int} {s p : Nat} {c : Int} (hp : Per F s p c) (h1 : 1 ≤ p) (h2 : p ≤ 120) (h3 : s + p ≤ 400) (h0 : 0 ≤ F 0) (hm : ∀ t, t < s + p → F t ≤ F (t + 1)) (hb : F (s + p - 1) ≤ 1073741824) (hc : c ≤ 1073741824) :
    Good (firsts F (s + p)) p c ∧ (¬ InfC (firsts F (s + p))) ∧ ∀ t, atC (firsts F (s + p)) p c t = F t := by
  have hl := firsts_length F (s + p)
  have up : ∀ k i, i + k ≤ s + p → F i ≤ F (i + k) := fun k => by
    induction k with
    | zero => intro i _; exact Int.le_refl _
    | succ k ih => intro i hi; have a := ih i (by omega); have b := hm (i + k) (by omega); rw [show i + (k + 1) = i + k + 1 by omega]; omega
  have lo : ∀ i, i ≤ s + p → 0 ≤ F i := fun i hi => by have := up i 0 (by omega); rw [Nat.zero_add] at this; omega
  have hi' : ∀ i, i < s + p → F i ≤ 1073741824 := fun i hi => by have := up (s + p - 1 - i) i (by omega); rw [show i + (s + p - 1 - i) = s + p - 1 by omega] at this; omega
  have hlast : ¬ InfC (firsts F (s + p)) := by
    rw [infC_iff, hl, firsts_getD _ _ _ (by omega)]; unfold infV; omega
  have hc0 : F (s + p) = F s + c := hp s (Nat.le_refl _)
  have hup := up p s (by omega)
  have g : Good (firsts F (s + p)) p c := by
    refine ⟨by omega, h1, h2, by omega, by omega, hc, fun i hi => ?_, fun i hi => ?_, fun hx => absurd hx hlast, fun _ => ?_⟩
    · rw [hl] at hi; rw [firsts_getD _ _ _ hi]; exact .inl ⟨lo i (by omega), hi' i hi⟩
    · rw [hl] at hi; rw [firsts_getD _ _ _ (by omega), firsts_getD _ _ _ hi]; exact hm i (by omega)
    · rw [hl, firsts_getD _ _ _ (by omega), firsts_getD _ _ _ (by omega), show s + p - p = s by omega]
      have := hm (s + p - 1) (by omega)
      rw [show s + p - 1 + 1 = s + p by omega] at this
      omega
  refine ⟨g, hlast, ?_⟩
  have hper := g.per hlast
  rw [hl, show s + p - p = s by omega] at hper
  exact hper.ext hp h1 fun t ht => by rw [atC_lt (by omega), firsts_getD _ _ _ ht]

/-- There is a curve with these values, all finite. -/
theorem can_fin {E : Nat → Option Int} {F : Nat → Int} (hE : ∀ t, E t = some (F t)) {s p : Nat} {c : Int} (hp : Per F s p c) (h1 : 1 ≤ p) (h2 : p ≤ 120) (h3 : s + p ≤ 400) (h0 : 0 ≤ F 0) (hm : ∀ t, t < s + p → F t ≤ F (t + 1)) (hb : F (s + p - 1) ≤ 1073741824) (hc : c ≤ 1073741824) : ECan E := by
  obtain ⟨g, hf, hv⟩ := good_fin hp h1 h2 h3 h0 hm hb hc
  exact ⟨_, _, _, g, fun t => by rw [eC_fin hf, hv, hE]⟩

/-- There is a curve with these values, which are infinite from i on. -/
theorem can_inf {E : Nat → Option Int} {F : Nat → Int} {i : Nat} (hi : i ≤ 399) (hE : ∀ t, t < i → E t = some (F t)) (hN : ∀ t, i ≤ t → E t = none) (hb : ∀ t, t < i → 0 ≤ F t ∧ F t ≤ 1073741824) (hm : ∀ t, t + 1 < i → F t ≤ F (t + 1)) : ECan E := by
  have hl : (firsts F i ++ [infV]).length = i + 1 := by simp [firsts_length]
  have hlt : ∀ j, j < i → (firsts F i ++ [infV]).getD j 0 = F j := fun j hj => by
    rw [getD_append_lt (by rw [firsts_length]; exact hj), firsts_getD _ _ _ hj]
  have hat : (firsts F i ++ [infV]).getD i 0 = infV := by
    have := getD_append_eq (zs := firsts F i) (v := infV)
    rwa [firsts_length] at this
  have hlast : InfC (firsts F i ++ [infV]) := by rw [infC_iff, hl, Nat.add_sub_cancel, hat]
  have g : Good (firsts F i ++ [infV]) 1 0 := by
    refine ⟨by omega, by omega, by omega, by omega, by omega, by omega, fun j hj => ?_, fun j hj => ?_, fun _ => ⟨rfl, rfl⟩, fun hx => absurd hlast hx⟩
    · by_cases he : j = i
      · subst he; exact .inr hat
      · rw [hlt j (by omega)]; exact .inl (hb j (by omega))
    · by_cases he : j + 1 = i
      · rw [he, hat, hlt j (by omega)]; have := hb j (by omega); unfold infV; omega
      · rw [hlt j (by omega), hlt (j + 1) (by omega)]; exact hm j (by omega)
  refine ⟨_, _, _, g, fun t => ?_⟩
  by_cases ht : t < i
  · rw [hE t ht]
    unfold eC
    rw [if_neg, atC_lt (by omega), hlt t ht]
    rintro ⟨_, hx⟩
    rw [atC_lt (by omega), hlt t ht] at hx
    have := hb t ht
    unfold infV at hx; omega
  · rw [hN t (by omega)]
    exact eC_none.2 ⟨hlast, atC_inf hlast (by omega) (by omega)⟩

/-! ## The greater and the lesser of two functions -/

def maxF (a b : Nat → Int) (t : Nat) : Int := max (a t) (b t)
def minF (a b : Nat → Int) (t : Nat) : Int := min (a t) (b t)

theorem max_found {a b : Nat → Int} {S L : Nat} {ca cb : Int} (ha : Per a S L ca) (hb : Per b S L cb) (hL : 1 ≤ L) (h : ∀ t, S ≤ t → t < S + L → maxF a b (t + L) = maxF a b t + max ca cb) : Per (maxF a b) S L (max ca cb) := by
  intro t
  induction t using Nat.strongRecOn with
  | ind t ih =>
    intro ht
    by_cases hlt : t < S + L
    · exact h t ht hlt
    · obtain ⟨u, rfl⟩ : ∃ u, t = u + L := ⟨t - L, by omega⟩
      have h0 := ih u (by omega) (by omega)
      have a1 := ha u (by omega)
      have a2 := ha (u + L) (by omega)
      have b1 := hb u (by omega)
      have b2 := hb (u + L) (by omega)
      unfold maxF at *
      rw [a2, b2]
      rw [a1, b1] at h0 ⊢
      omega

theorem min_found {a b : Nat → Int} {S L : Nat} {ca cb : Int} (ha : Per a S L ca) (hb : Per b S L cb) (hL : 1 ≤ L) (h : ∀ t, S ≤ t → t < S + L → minF a b (t + L) = minF a b t + min ca cb) : Per (minF a b) S L (min ca cb) := by
  intro t
  induction t using Nat.strongRecOn with
  | ind t ih =>
    intro ht
    by_cases hlt : t < S + L
    · exact h t ht hlt
    · obtain ⟨u, rfl⟩ : ∃ u, t = u + L := ⟨t - L, by omega⟩
      have h0 := ih u (by omega) (by omega)
      have a1 := ha u (by omega)
      have a2 := ha (u + L) (by omega)
      have b1 := hb u (by omega)
      have b2 := hb (u + L) (by omega)
      unfold minF at *
      rw [a2, b2]
      rw [a1, b1] at h0 ⊢
      omega

theorem bound_ex (d : Nat → Int) (S : Nat) : ∀ L, ∃ K : Nat, ∀ r, r < L → d (S + r) ≤ K
  | 0 => ⟨0, fun r hr => absurd hr (Nat.not_lt_zero _)⟩
  | L + 1 => by
    obtain ⟨K, hK⟩ := bound_ex d S L
    refine ⟨K + (d (S + L)).toNat, fun r hr => ?_⟩
    by_cases he : r = L
    · subst he; omega
    · have := hK r (by omega); omega

/-- What falls from period to period is below 0 in the end. -/
theorem falls {d : Nat → Int} {S L : Nat} {c : Int} (h : Per d S L c) (hL : 1 ≤ L) (hc : c < 0) : ∃ S', S ≤ S' ∧ ∀ t, S' ≤ t → d t ≤ 0 := by
  obtain ⟨K, hK⟩ := bound_ex d S L
  refine ⟨S + (K + 1) * L, by omega, fun t ht => ?_⟩
  obtain ⟨r, j, hr, rfl⟩ := tick_split (S := S) hL (show S ≤ t by omega)
  have hj : K ≤ j := by
    refine Nat.le_of_not_lt fun hlt => ?_
    have h1 : j * L + L ≤ K * L := by
      have := Nat.mul_le_mul_right L (show j + 1 ≤ K by omega)
      rwa [Nat.succ_mul] at this
    rw [Nat.succ_mul] at ht
    omega
  rw [h.to r j]
  have h1 := hK r hr
  have h2 : (j : Int) * c ≤ (j : Int) * (-1) := Int.mul_le_mul_of_nonneg_left (by omega) (by omega)
  omega

theorem max_late {a b : Nat → Int} {S L : Nat} {ca cb : Int} (ha : Per a S L ca) (hb : Per b S L cb) (hL : 1 ≤ L) : ∃ S', Per (maxF a b) S' L (max ca cb) := by
  have hd : Per (fun t => a t - b t) S L (ca - cb) := fun t ht => by have := ha t ht; have := hb t ht; show a (t + L) - b (t + L) = a t - b t + (ca - cb); omega
  have hd' : Per (fun t => b t - a t) S L (cb - ca) := fun t ht => by have := ha t ht; have := hb t ht; show b (t + L) - a (t + L) = b t - a t + (cb - ca); omega
  rcases Int.lt_trichotomy ca cb with h | h | h
  · obtain ⟨S', hS, hf⟩ := falls hd hL (by omega)
    refine ⟨S', fun t ht => ?_⟩
    have e1 : a t - b t ≤ 0 := hf t ht
    have e2 : a (t + L) - b (t + L) ≤ 0 := hf (t + L) (by omega)
    have e3 := hb t (by omega)
    unfold maxF; omega
  · refine ⟨S, fun t ht => ?_⟩
    have e1 := ha t ht
    have e2 := hb t ht
    unfold maxF; omega
  · obtain ⟨S', hS, hf⟩ := falls hd' hL (by omega)
    refine ⟨S', fun t ht => ?_⟩
    have e1 : b t - a t ≤ 0 := hf t ht
    have e2 : b (t + L) - a (t + L) ≤ 0 := hf (t + L) (by omega)
    have e3 := ha t (by omega)
    unfold maxF; omega

theorem min_late {a b : Nat → Int} {S L : Nat} {ca cb : Int} (ha : Per a S L ca) (hb : Per b S L cb) (hL : 1 ≤ L) : ∃ S', Per (minF a b) S' L (min ca cb) := by
  have hd : Per (fun t => a t - b t) S L (ca - cb) := fun t ht => by have := ha t ht; have := hb t ht; show a (t + L) - b (t + L) = a t - b t + (ca - cb); omega
  have hd' : Per (fun t => b t - a t) S L (cb - ca) := fun t ht => by have := ha t ht; have := hb t ht; show b (t + L) - a (t + L) = b t - a t + (cb - ca); omega
  rcases Int.lt_trichotomy ca cb with h | h | h
  · obtain ⟨S', hS, hf⟩ := falls hd hL (by omega)
    refine ⟨S', fun t ht => ?_⟩
    have e1 : a t - b t ≤ 0 := hf t ht
    have e2 : a (t + L) - b (t + L) ≤ 0 := hf (t + L) (by omega)
    have e3 := ha t (by omega)
    unfold minF; omega
  · refine ⟨S, fun t ht => ?_⟩
    have e1 := ha t ht
    have e2 := hb t ht
    unfold minF; omega
  · obtain ⟨S', hS, hf⟩ := falls hd' hL (by omega)
    refine ⟨S', fun t ht => ?_⟩
    have e1 : b t - a t ≤ 0 := hf t ht
    have e2 : b (t + L) - a (t + L) ≤ 0 := hf (t + L) (by omega)
    have e3 := hb t (by omega)
    unfold minF; omega

/-- If a function grows by G in the end, and is a curve's, then it does so in each period behind tick 400. -/
theorem CanBe.late {F : Nat → Int} (h : CanBe F) {S L : Nat} {G : Int} (k : Per F S L G) : Per F 400 L G := by
  obtain ⟨s, p, c, hs, hp, hk⟩ := h.per
  exact (hk.any hp k).mono (by omega)

end Go.Proofs.Ytknimlpdpgpliaa

namespace Go.Proofs.Ytknimlpdpgpliaa

def oadd : Option Int → Option Int → Option Int
  | some x, some y => some (x + y)
  | _, _ => none
def omin : Option Int → Option Int → Option Int
  | none, y => y
  | some x, none => some x
  | some x, some y => some (min x y)
def omax : Option Int → Option Int → Option Int
  | some x, some y => some (max x y)
  | _, _ => none
def plI (a b : Int) : Int := if a = infV ∨ b = infV then infV else a + b

theorem plI_fin {a b : Int} (ha : ¬ a = infV) (hb : ¬ b = infV) : plI a b = a + b := by unfold plI; rw [if_neg (fun h => h.elim ha hb)]
theorem plI_l (b : Int) : plI infV b = infV := by unfold plI; rw [if_pos (.inl rfl)]
theorem plI_r (a : Int) : plI a infV = infV := by unfold plI; rw [if_pos (.inr rfl)]

theorem oadd_none_l (y : Option Int) : oadd none y = none := by cases y <;> rfl
theorem oadd_none_r (x : Option Int) : oadd x none = none := by cases x <;> rfl
theorem omax_none_l (y : Option Int) : omax none y = none := by cases y <;> rfl
theorem omax_none_r (x : Option Int) : omax x none = none := by cases x <;> rfl
/-- How much a curve grows in L ticks in the long run. -/
noncomputable def growI (zs : List Int) (p : Nat) (inc : Int) (L : Nat) : Int :=
  open Classical in if InfC zs then infV else ((L / p : Nat) : Int) * inc
theorem growI_inf {zs : List Int} (h : InfC zs) (p : Nat) (inc : Int) (L : Nat) : growI zs p inc L = infV := by unfold growI; rw [if_pos h]
theorem growI_fin {zs : List Int} (h : ¬ InfC zs) (p : Nat) (inc : Int) (L : Nat) : growI zs p inc L = ((L / p : Nat) : Int) * inc := by unfold growI; rw [if_neg h]

/-- A number that is infinite or small. -/
def Mid (x : Int) : Prop := x = infV ∨ (0 ≤ x ∧ x ≤ 1125899906842624)

def chk (F : Nat → Int) (L : Nat) (G : Int) : Prop := ∀ t, 400 ≤ t → t < 400 + L → F (t + L) = plI (F t) G
/-- The test of one period tells whether there is a curve. -/
def Settling (F : Nat → Int) (L : Nat) (G : Int) : Prop := (chk F L G → ∃ c, Per F 400 L c) ∧ (¬ chk F L G → ¬ CanBe F)
/-- The test of one period from the tick s on. -/
def chkS (F : Nat → Int) (s L : Nat) (G : Int) : Prop := ∀ t, s ≤ t → t < s + L → F (t + L) = plI (F t) G
def SettlingS (F : Nat → Int) (s L : Nat) (G : Int) : Prop := (chkS F s L G → ∃ c, Per F s L c) ∧ (¬ chkS F s L G → ¬ CanBe F)
theorem settling_of {F : Nat → Int} {L : Nat} {G c : Int} (hp : Per F 400 L c) (hc : chk F L G) : Settling F L G := ⟨fun _ => ⟨c, hp⟩, fun h => absurd hc h⟩

theorem settling_inf {F : Nat → Int} {L : Nat} (h : ∀ t, 400 ≤ t → F t = infV) : Settling F L infV :=
  settling_of (c := 0) (fun t ht => by rw [h t ht, h (t + L) (by omega)]; omega) (fun t h1 _ => by rw [h t h1, h (t + L) (by omega), plI_l])

section
variable {zs ys : List Int} {p q : Nat} {inc jnc : Int}

theorem Good.perL (g : Good zs p inc) (hf : ¬ InfC zs) {L : Nat} (hL : L / p * p = L) : Per (atC zs p inc) 400 L (((L / p : Nat) : Int) * inc) := by
  have h := (g.per hf).mul (L / p)
  rw [hL] at h
  have := g.few
  exact h.mono (by omega)

theorem grow_mid (g : Good zs p inc) {L : Nat} (hL : L ≤ 120) : Mid (growI zs p inc L) := by
  by_cases hi : InfC zs
  · rw [growI_inf hi]; exact .inl rfl
  · rw [growI_fin hi]
    have h0 := g.i0; have h1 := g.i1
    have h2 : L / p ≤ 120 := Nat.le_trans (Nat.div_le_self _ _) hL
    refine .inr ⟨Int.mul_nonneg (Int.natCast_nonneg _) h0, ?_⟩
    have : ((L / p : Nat) : Int) * inc ≤ 120 * 1073741824 := Int.mul_le_mul (by omega) h1 h0 (by omega)
    omega

theorem at_mid (g : Good zs p inc) {t : Nat} (ht : t ≤ 1000) : Mid (atC zs p inc t) := by
  rcases g.seen (t := t) (by omega) with h | ⟨_, h2, h3⟩
  · exact .inl h.2
  · exact .inr ⟨h2, by omega⟩

/-- The value of a curve at a tick that is not late, and the value with infinity. -/
theorem eC_cases (g : Good zs p inc) {t : Nat} (_ht : t ≤ 1048576) : (eC zs p inc t = none ∧ atC zs p inc t = infV) ∨ (∃ x, eC zs p inc t = some x ∧ atC zs p inc t = x ∧ 0 ≤ x ∧ x ≤ 1073741824 * ((t : Int) + 1)) := by
  cases h : eC zs p inc t with
  | none => exact .inl ⟨rfl, (eC_none.1 h).2⟩
  | some x => have := eC_bd g h; exact .inr ⟨x, rfl, this.2.2, this.1, this.2.1⟩

theorem eC_400 (g : Good zs p inc) (hi : InfC zs) {t : Nat} (ht : 399 ≤ t) : eC zs p inc t = none := eC_late g hi (by have := g.few; omega)

/-! ### Sum -/

noncomputable def eSum (zs : List Int) (p : Nat) (inc : Int) (ys : List Int) (q : Nat) (jnc : Int) (t : Nat) : Option Int := oadd (eC zs p inc t) (eC ys q jnc t)
noncomputable def eMin (zs : List Int) (p : Nat) (inc : Int) (ys : List Int) (q : Nat) (jnc : Int) (t : Nat) : Option Int := omin (eC zs p inc t) (eC ys q jnc t)
/-- What is asked of a choice between two curves. -/
structure PairOk (ch : Int → Int → Int) (E : Nat → Option Int) (zs : List Int) (p : Nat) (inc : Int) (ys : List Int) (q : Nat) (jnc : Int) : Prop where
  val : ∀ t, t ≤ 1000 → encF E t = ch (atC zs p inc t) (atC ys q jnc t)
  mid : ∀ t, t ≤ 1000 → Mid (encF E t)
  gmid : ∀ L, L ≤ 120 → Mid (ch (growI zs p inc L) (growI ys q jnc L))
  settle : ∀ L, 1 ≤ L → L ≤ 120 → L / p * p = L → L / q * q = L → Settling (encF E) L (ch (growI zs p inc L) (growI ys q jnc L))
  tame : Tame E

theorem sum_mid {x y : Int} (hx : x = infV ∨ (0 ≤ x ∧ x ≤ 1099511627776)) (hy : y = infV ∨ (0 ≤ y ∧ y ≤ 1099511627776)) : Mid (plI x y) := by
  unfold Mid plI
  rcases hx with rfl | hx
  · rw [if_pos (.inl rfl)]; exact .inl rfl
  · rcases hy with rfl | hy
    · rw [if_pos (.inr rfl)]; exact .inl rfl
    · rw [if_neg]
      · exact .inr ⟨by omega, by omega⟩
      · unfold infV; omega

theorem grow_low (g : Good zs p inc) {L : Nat} (hL : L ≤ 120) : growI zs p inc L = infV ∨ (0 ≤ growI zs p inc L ∧ growI zs p inc L ≤ 1099511627776) := by
  by_cases hi : InfC zs
  · exact .inl (growI_inf hi p inc L)
  · rw [growI_fin hi]
    have h0 := g.i0; have h1 := g.i1
    have h2 : L / p ≤ 120 := Nat.le_trans (Nat.div_le_self _ _) hL
    refine .inr ⟨Int.mul_nonneg (Int.natCast_nonneg _) h0, ?_⟩
    have : ((L / p : Nat) : Int) * inc ≤ 120 * 1073741824 := Int.mul_le_mul (by omega) h1 h0 (by omega)
    omega

theorem at_low (g : Good zs p inc) {t : Nat} (ht : t ≤ 1000) : atC zs p inc t = infV ∨ (0 ≤ atC zs p inc t ∧ atC zs p inc t ≤ 1099511627776) := by
  rcases g.seen (t := t) (by omega) with h | ⟨_, h2, h3⟩
  · exact .inl h.2
  · exact .inr ⟨h2, by omega⟩

/-- Of a finite curve the growth and the early values are small. -/
theorem fin_low (g : Good zs p inc) (hf : ¬ InfC zs) {L : Nat} (hL : L ≤ 120) : (0 ≤ ((L / p : Nat) : Int) * inc ∧ ((L / p : Nat) : Int) * inc ≤ 1099511627776) ∧ ∀ t, t ≤ 1000 → 0 ≤ atC zs p inc t ∧ atC zs p inc t ≤ 1099511627776 := by
  refine ⟨?_, fun t ht => ?_⟩
  · have := grow_low g hL
    rw [growI_fin hf] at this
    rcases this with h | h
    · exfalso
      have h0 := g.i0; have h1 := g.i1
      have h2 : L / p ≤ 120 := Nat.le_trans (Nat.div_le_self _ _) hL
      have : ((L / p : Nat) : Int) * inc ≤ 120 * 1073741824 := Int.mul_le_mul (by omega) h1 h0 (by omega)
      unfold infV at h; omega
    · exact h
  · have := g.bd hf t
    omega

theorem sum_val (g : Good zs p inc) (k : Good ys q jnc) {t : Nat} (ht : t ≤ 1048576) : enc (eSum zs p inc ys q jnc t) = plI (atC zs p inc t) (atC ys q jnc t) := by
  unfold eSum
  rcases eC_cases g ht with ⟨h1, h2⟩ | ⟨x, h1, h2, h3, h4⟩
  · rw [h1, h2, plI_l, oadd_none_l]; rfl
  · rcases eC_cases k ht with ⟨k1, k2⟩ | ⟨y, k1, k2, k3, k4⟩
    · rw [k1, k2, plI_r, oadd_none_r]; rfl
    · rw [h1, k1, h2, k2, plI_fin (by unfold infV; omega) (by unfold infV; omega)]; rfl

theorem min_val (g : Good zs p inc) (k : Good ys q jnc) {t : Nat} (ht : t ≤ 1048576) : enc (eMin zs p inc ys q jnc t) = min (atC zs p inc t) (atC ys q jnc t) := by
  unfold eMin
  rcases eC_cases g ht with ⟨h1, h2⟩ | ⟨x, h1, h2, h3, h4⟩
  · rcases eC_cases k ht with ⟨k1, k2⟩ | ⟨y, k1, k2, k3, k4⟩
    · rw [h1, k1, h2, k2]; show infV = _; omega
    · rw [h1, k1, h2, k2]; show y = _; unfold infV; omega
  · rcases eC_cases k ht with ⟨k1, k2⟩ | ⟨y, k1, k2, k3, k4⟩
    · rw [h1, k1, h2, k2]; show x = _; unfold infV; omega
    · rw [h1, k1, h2, k2]; rfl

theorem tame_400 {E : Nat → Option Int} (hu : ∀ t, E t = none → E (t + 1) = none) {y : Int} (h : E 400 = some y) (hy : y ≤ 1125899906842624) : Tame E :=
  ⟨hu, .inl ⟨400, Nat.le_refl _, y, h, by unfold infV; omega⟩⟩

theorem sum_up (g : Good zs p inc) (k : Good ys q jnc) (t : Nat) (h : eSum zs p inc ys q jnc t = none) : eSum zs p inc ys q jnc (t + 1) = none := by
  unfold eSum at *
  cases h1 : eC zs p inc t with
  | none => rw [eC_up g h1, oadd_none_l]
  | some x =>
    cases h2 : eC ys q jnc t with
    | none => rw [eC_up k h2, oadd_none_r]
    | some y => rw [h1, h2] at h; cases h

theorem min_up (g : Good zs p inc) (k : Good ys q jnc) (t : Nat) (h : eMin zs p inc ys q jnc t = none) : eMin zs p inc ys q jnc (t + 1) = none := by
  unfold eMin at *
  cases h1 : eC zs p inc t with
  | none =>
    cases h2 : eC ys q jnc t with
    | none => rw [eC_up g h1, eC_up k h2]; rfl
    | some y => rw [h1, h2] at h; cases h
  | some x => cases h2 : eC ys q jnc t <;> (rw [h1, h2] at h; cases h)

/-- Of an infinite sum or maximum the finite values are small. -/
theorem both_some {a b : Option Int} {x : Int} (h : oadd a b = some x) : ∃ y z, a = some y ∧ b = some z ∧ x = y + z := by
  cases a with
  | none => rw [oadd_none_l] at h; cases h
  | some y =>
    cases b with
    | none => cases h
    | some z => exact ⟨y, z, rfl, rfl, by cases h; rfl⟩
theorem both_some_max {a b : Option Int} {x : Int} (h : omax a b = some x) : ∃ y z, a = some y ∧ b = some z ∧ x = max y z := by
  cases a with
  | none => rw [omax_none_l] at h; cases h
  | some y =>
    cases b with
    | none => cases h
    | some z => exact ⟨y, z, rfl, rfl, by cases h; rfl⟩

/-- In a sum or maximum with an infinite curve the ticks with a finite value are early. -/
theorem early (g : Good zs p inc) (hi : InfC zs) {t : Nat} {y : Int} (h : eC zs p inc t = some y) : t ≤ 399 := by
  refine Nat.le_of_not_lt fun hlt => ?_
  rw [eC_400 g hi (by omega)] at h; cases h

theorem sum_pair (g : Good zs p inc) (k : Good ys q jnc) : PairOk plI (eSum zs p inc ys q jnc) zs p inc ys q jnc := by
  have hmid : ∀ t, t ≤ 1000 → Mid (encF (eSum zs p inc ys q jnc) t) := fun t ht => by
    unfold encF; rw [sum_val g k (by omega)]; exact sum_mid (at_low g ht) (at_low k ht)
  refine ⟨fun t ht => sum_val g k (by omega), hmid, fun L hL => sum_mid (grow_low g hL) (grow_low k hL), fun L h1 hL hp hq => ?_, ?_⟩
  · by_cases hi : InfC zs
    · rw [growI_inf hi, plI_l]
      exact settling_inf fun t ht => by unfold encF eSum; rw [eC_400 g hi (by omega), oadd_none_l]; rfl
    by_cases hj : InfC ys
    · rw [growI_inf hj, plI_r]
      exact settling_inf fun t ht => by unfold encF eSum; rw [eC_400 k hj (by omega), oadd_none_r]; rfl
    have hv : ∀ t, encF (eSum zs p inc ys q jnc) t = atC zs p inc t + atC ys q jnc t := fun t => by unfold encF eSum; rw [eC_fin hi, eC_fin hj]; rfl
    have ha := g.perL hi hp
    have hb := k.perL hj hq
    obtain ⟨g1, g2⟩ := fin_low g hi hL
    obtain ⟨k1, k2⟩ := fin_low k hj hL
    rw [growI_fin hi, growI_fin hj, plI_fin (by unfold infV; omega) (by unfold infV; omega)]
    refine settling_of (c := ((L / p : Nat) : Int) * inc + ((L / q : Nat) : Int) * jnc) (fun t ht => ?_) (fun t h1 h2 => ?_)
    · rw [hv, hv, ha t ht, hb t ht]; omega
    · have a1 := g2 t (by omega)
      have a2 := k2 t (by omega)
      rw [hv, hv, plI_fin (by unfold infV; omega) (by unfold infV; omega), ha t h1, hb t h1]; omega
  · refine ⟨sum_up g k, ?_⟩
    by_cases hi : InfC zs
    · refine .inr fun t x h => ?_
      obtain ⟨y, z, h1, h2, rfl⟩ := both_some h
      have := early g hi h1
      have := eC_bd g h1
      have := eC_bd k h2
      unfold infV; omega
    by_cases hj : InfC ys
    · refine .inr fun t x h => ?_
      obtain ⟨y, z, h1, h2, rfl⟩ := both_some h
      have := early k hj h2
      have := eC_bd g h1
      have := eC_bd k h2
      unfold infV; omega
    have a1 := g.bd hi 400
    have a2 := k.bd hj 400
    exact .inl ⟨400, Nat.le_refl _, atC zs p inc 400 + atC ys q jnc 400, by unfold eSum; rw [eC_fin hi, eC_fin hj]; rfl, by unfold infV; omega⟩

theorem min_mid {x y : Int} (hx : Mid x) (hy : Mid y) : Mid (min x y) := by
  unfold Mid infV at *; omega

theorem min_pair (g : Good zs p inc) (k : Good ys q jnc) : PairOk min (eMin zs p inc ys q jnc) zs p inc ys q jnc := by
  refine ⟨fun t ht => min_val g k (by omega), fun t ht => ?_, fun L hL => min_mid (grow_mid g hL) (grow_mid k hL), fun L h1 hL hp hq => ?_, ?_⟩
  · unfold encF; rw [min_val g k (by omega)]; exact min_mid (at_mid g ht) (at_mid k ht)
  · by_cases hi : InfC zs
    · by_cases hj : InfC ys
      · have e : min (growI zs p inc L) (growI ys q jnc L) = infV := by rw [growI_inf hi, growI_inf hj]; omega
        rw [e]
        exact settling_inf fun t ht => by unfold encF eMin; rw [eC_400 g hi (by omega), eC_400 k hj (by omega)]; rfl
      · have hb := k.perL hj hq
        obtain ⟨k1, k2⟩ := fin_low k hj hL
        have e : min (growI zs p inc L) (growI ys q jnc L) = ((L / q : Nat) : Int) * jnc := by rw [growI_inf hi, growI_fin hj]; unfold infV; omega
        have hv : ∀ t, 400 ≤ t → encF (eMin zs p inc ys q jnc) t = atC ys q jnc t := fun t ht => by unfold encF eMin; rw [eC_400 g hi (by omega), eC_fin hj]; rfl
        rw [e]
        refine settling_of (c := ((L / q : Nat) : Int) * jnc) (fun t ht => ?_) (fun t h1 h2 => ?_)
        · rw [hv t ht, hv (t + L) (by omega), hb t ht]
        · have a2 := k2 t (by omega)
          rw [hv t h1, hv (t + L) (by omega), hb t h1, plI_fin (by unfold infV; omega) (by unfold infV; omega)]
    by_cases hj : InfC ys
    · have hb := g.perL hi hp
      obtain ⟨k1, k2⟩ := fin_low g hi hL
      have e : min (growI zs p inc L) (growI ys q jnc L) = ((L / p : Nat) : Int) * inc := by rw [growI_inf hj, growI_fin hi]; unfold infV; omega
      have hv : ∀ t, 400 ≤ t → encF (eMin zs p inc ys q jnc) t = atC zs p inc t := fun t ht => by unfold encF eMin; rw [eC_400 k hj (by omega), eC_fin hi]; rfl
      rw [e]
      refine settling_of (c := ((L / p : Nat) : Int) * inc) (fun t ht => ?_) (fun t h1 h2 => ?_)
      · rw [hv t ht, hv (t + L) (by omega), hb t ht]
      · have a2 := k2 t (by omega)
        rw [hv t h1, hv (t + L) (by omega), hb t h1, plI_fin (by unfold infV; omega) (by unfold infV; omega)]
    have hv : encF (eMin zs p inc ys q jnc) = minF (atC zs p inc) (atC ys q jnc) := funext fun t => by unfold encF eMin; rw [eC_fin hi, eC_fin hj]; rfl
    have ha := g.perL hi hp
    have hb := k.perL hj hq
    obtain ⟨g1, g2⟩ := fin_low g hi hL
    obtain ⟨k1, k2⟩ := fin_low k hj hL
    rw [growI_fin hi, growI_fin hj, hv]
    generalize ((L / p : Nat) : Int) * inc = ca at *
    generalize ((L / q : Nat) : Int) * jnc = cb at *
    have hch : ∀ t, 400 ≤ t → t < 400 + L → plI (minF (atC zs p inc) (atC ys q jnc) t) (min ca cb) = minF (atC zs p inc) (atC ys q jnc) t + min ca cb := fun t h1 h2 => by
      have a1 := g2 t (by omega)
      have a2 := k2 t (by omega)
      exact plI_fin (by unfold minF infV; omega) (by unfold infV; omega)
    refine ⟨fun hc => ⟨_, min_found ha hb h1 fun t h3 h4 => by rw [hc t h3 h4, hch t h3 h4]⟩, fun hc hcan => hc fun t h3 h4 => ?_⟩
    obtain ⟨S', hS⟩ := min_late ha hb h1
    rw [hch t h3 h4]
    exact hcan.late hS t h3
  · refine ⟨min_up g k, ?_⟩
    by_cases hi : InfC zs
    · by_cases hj : InfC ys
      · refine .inr fun t x h => ?_
        unfold eMin at h
        cases h1 : eC zs p inc t with
        | none =>
          rw [h1] at h
          have h2 : eC ys q jnc t = some x := h
          have := early k hj h2
          have := eC_bd k h2
          unfold infV; omega
        | some y =>
          have := early g hi h1
          have := eC_bd g h1
          cases h2 : eC ys q jnc t with
          | none => rw [h1, h2] at h; cases h; unfold infV; omega
          | some z => have := eC_bd k h2; rw [h1, h2] at h; cases h; unfold infV; omega
      · have a2 := k.bd hj 400
        exact .inl ⟨400, Nat.le_refl _, atC ys q jnc 400, by unfold eMin; rw [eC_400 g hi (by omega), eC_fin hj]; rfl, by unfold infV; omega⟩
    by_cases hj : InfC ys
    · have a2 := g.bd hi 400
      exact .inl ⟨400, Nat.le_refl _, atC zs p inc 400, by unfold eMin; rw [eC_400 k hj (by omega), eC_fin hi]; rfl, by unfold infV; omega⟩
    have a1 := g.bd hi 400
    have a2 := k.bd hj 400
    exact .inl ⟨400, Nat.le_refl _, min (atC zs p inc 400) (atC ys q jnc 400), by unfold eMin; rw [eC_fin hi, eC_fin hj]; rfl, by unfold infV; omega⟩

/-! ### One curve -/

def omap (f : Int → Int) : Option Int → Option Int
  | none => none
  | some x => some (f x)

noncomputable def eLower (c : Int) (zs : List Int) (p : Nat) (inc : Int) (t : Nat) : Option Int := omap (fun x => max (x - c) 0) (eC zs p inc t)
theorem lower_val (g : Good zs p inc) {c : Int} {t : Nat} (ht : t ≤ 1048576) : enc (eLower c zs p inc t) = if atC zs p inc t = infV then infV else max (atC zs p inc t - c) 0 := by
  unfold eLower
  rcases eC_cases g ht with ⟨h1, h2⟩ | ⟨x, h1, h2, h3, h4⟩
  · rw [h1, h2, if_pos rfl]; rfl
  · rw [h1, h2, if_neg (by unfold infV; omega)]; rfl

theorem lower_settle (g : Good zs p inc) {c : Int} (hc0 : 0 ≤ c) (hc : c ≤ 1073741824) : Settling (encF (eLower c zs p inc)) p (growI zs p inc p) ∧ Tame (eLower c zs p inc) ∧ ∀ t, t ≤ 1000 → Mid (encF (eLower c zs p inc) t) := by
  have h1 := g.p1; have h2 := g.p2
  have hup : ∀ t, eLower c zs p inc t = none → eLower c zs p inc (t + 1) = none := fun t h => by
    unfold eLower at *
    cases h4 : eC zs p inc t with
    | none => rw [eC_up g h4]; rfl
    | some x => rw [h4] at h; cases h
  refine ⟨?_, ⟨hup, ?_⟩, fun t ht => ?_⟩
  · by_cases hi : InfC zs
    · rw [growI_inf hi]
      exact settling_inf fun t ht => by unfold encF eLower; rw [eC_400 g hi (by omega)]; rfl
    have hv : encF (eLower c zs p inc) = maxF (fun t => atC zs p inc t - c) (fun _ => 0) := funext fun t => by unfold encF eLower; rw [eC_fin hi]; rfl
    have hself : p / p * p = p := by rw [Nat.div_self (by omega), Nat.one_mul]
    have ha0 := g.perL hi hself
    obtain ⟨g1, g2⟩ := fin_low g hi h2
    rw [growI_fin hi, hv]
    generalize ((p / p : Nat) : Int) * inc = ca at *
    have ha : Per (fun t => atC zs p inc t - c) 400 p ca := fun t ht => by
      have := ha0 t ht
      show atC zs p inc (t + p) - c = atC zs p inc t - c + ca
      omega
    have hb : Per (fun _ => (0 : Int)) 400 p 0 := fun t ht => by show (0 : Int) = 0 + 0; omega
    have hca : max ca 0 = ca := by omega
    have hch : ∀ t, 400 ≤ t → t < 400 + p → plI (maxF (fun t => atC zs p inc t - c) (fun _ => 0) t) ca = maxF (fun t => atC zs p inc t - c) (fun _ => 0) t + max ca 0 := fun t h1 h2 => by
      have a1 := g2 t (by omega)
      rw [hca]
      exact plI_fin (by show ¬ max (atC zs p inc t - c) 0 = infV; unfold infV; omega) (by unfold infV; omega)
    refine ⟨fun hc => ⟨_, max_found ha hb h1 fun t h3 h4 => by rw [hc t h3 h4, hch t h3 h4]⟩, fun hc hcan => hc fun t h3 h4 => ?_⟩
    obtain ⟨S', hS⟩ := max_late ha hb h1
    rw [hch t h3 h4]
    exact hcan.late hS t h3
  · by_cases hi : InfC zs
    · refine .inr fun t x h => ?_
      unfold eLower at h
      rcases eC_inf g hi t with h4 | ⟨y, h4, _, h6, h7⟩
      · rw [h4] at h; cases h
      · rw [h4] at h; cases h; show ¬ max (y - c) 0 = infV; unfold infV; omega
    · refine .inl ⟨400, by omega, max (atC zs p inc 400 - c) 0, ?_, ?_⟩
      · unfold eLower; rw [eC_fin hi]; rfl
      · have := g.bd hi 400; unfold infV; omega
  · unfold encF; rw [lower_val g (by omega)]
    have := at_mid g ht
    split
    · exact .inl rfl
    · rename_i hne
      unfold Mid infV at *; omega

end

end Go.Proofs.Ytknimlpdpgpliaa

namespace Go.Proofs.Ytknimlpdpgpliaa

theorem self_can {zs : List Int} {p : Nat} {inc : Int} (g : Good zs p inc) : ECan (eC zs p inc) := ⟨zs, p, inc, g, fun _ => rfl⟩

end Go.Proofs.Ytknimlpdpgpliaa

namespace Go.Proofs.Ytknimlpdpgpliaa

theorem can_of_inf {E : Nat → Option Int} (hu : ∀ t, E t = none → E (t + 1) = none) (hex : E 399 = none) (hb : ∀ t x, t ≤ 399 → E t = some x → 0 ≤ x ∧ x ≤ 1073741824) (hm : ∀ t x y, E t = some x → E (t + 1) = some y → x ≤ y) : ECan E := by
  obtain ⟨i, hi, hl⟩ := least_ex (P := fun t => E t = none) ⟨399, hex⟩
  have hi9 : i ≤ 399 := Nat.le_of_not_lt fun h => hl 399 h hex
  have hs : ∀ t, t < i → E t = some (encF E t) := fun t ht => by
    unfold encF
    cases h : E t with
    | none => exact absurd h (hl t ht)
    | some x => rfl
  refine can_inf (F := encF E) hi9 hs (fun t ht => ?_) (fun t ht => hb t _ (by omega) (hs t ht)) (fun t ht => hm t _ _ (hs t (by omega)) (hs (t + 1) ht))
  rw [show t = i + (t - i) by omega]
  exact stays hu hi _

section
variable {zs ys : List Int} {p q most : Nat} {inc jnc : Int}

theorem eC_mono (g : Good zs p inc) {t : Nat} {x y : Int} (h : eC zs p inc t = some x) (k : eC zs p inc (t + 1) = some y) : x ≤ y := by
  have h1 := (eC_bd g h).2.2
  have h2 := (eC_bd g k).2.2
  have := g.step t
  omega

/-- Of a curve that was drawn the values up to tick 399 are small. -/
theorem drawn_bd (o : OkCur most zs p inc) {t : Nat} {x : Int} (ht : t ≤ 399) (h : eC zs p inc t = some x) : 0 ≤ x ∧ x ≤ 10000 := by
  have hb := eC_bd o.good h
  by_cases hi : InfC zs
  · rcases eC_inf o.good hi t with h1 | ⟨y, h1, h2, h3, h4⟩
    · rw [h1] at h; cases h
    · rw [h1] at h; cases h
      refine ⟨h3, ?_⟩
      have hlt : t < zs.length := Nat.lt_of_not_le fun hle => by rw [eC_late o.good hi (by omega)] at h1; cases h1
      rcases o.val t hlt with h5 | h5
      · rw [atC_lt hlt] at h2; omega
      · rw [atC_lt hlt, h5] at h2; unfold infV at h2; omega
  · have := o.slow hi t
    rw [hb.2.2] at this
    omega

end

end Go.Proofs.Ytknimlpdpgpliaa

namespace Go.Proofs.Ytknimlpdpgpliaa

section
variable {zs ys : List Int} {p q most : Nat} {inc jnc k : Int}

theorem drawn_400 (o : OkCur most zs p inc) {t : Nat} {x : Int} (ht : t ≤ 400) (h : eC zs p inc t = some x) : 0 ≤ x ∧ x ≤ 10000 := by
  by_cases h9 : t ≤ 399
  · exact drawn_bd o h9 h
  · by_cases hi : InfC zs
    · rw [eC_400 o.good hi (by omega)] at h; cases h
    · have := o.slow hi t
      have hb := eC_bd o.good h
      rw [hb.2.2] at this
      omega

end

end Go.Proofs.Ytknimlpdpgpliaa

namespace Go.Proofs.Ytknimlpdpgpliaa

/-- At most, where none is the greatest. -/
def ole (a b : Option Int) : Prop := ∀ y, b = some y → ∃ x, a = some x ∧ x ≤ y

theorem ole_refl (a : Option Int) : ole a a := fun y h => ⟨y, h, Int.le_refl _⟩
theorem ole_none (a : Option Int) : ole a none := fun y h => by cases h
theorem ole_some {x y : Int} (h : x ≤ y) : ole (some x) (some y) := fun z hz => by cases hz; exact ⟨x, rfl, h⟩
theorem ole_trans {a b c : Option Int} (h : ole a b) (k : ole b c) : ole a c := fun z hz => by
  obtain ⟨y, hy, h1⟩ := k z hz
  obtain ⟨x, hx, h2⟩ := h y hy
  exact ⟨x, hx, by omega⟩
theorem ole_omax_l (a b : Option Int) : ole a (omax a b) := fun y hy => by
  obtain ⟨u, v, rfl, rfl, rfl⟩ := both_some_max hy
  exact ⟨u, rfl, by omega⟩
theorem ole_omax_r (a b : Option Int) : ole b (omax a b) := fun y hy => by
  obtain ⟨u, v, rfl, rfl, rfl⟩ := both_some_max hy
  exact ⟨v, rfl, by omega⟩
theorem ole_oadd {a b : Option Int} (hb : ∀ y, b = some y → 0 ≤ y) : ole a (oadd a b) := fun y hy => by
  obtain ⟨u, v, rfl, rfl, rfl⟩ := both_some hy
  have := hb v rfl
  exact ⟨u, rfl, by omega⟩
/-- Of two curves whose values are so the first is at most the second at every tick. -/
theorem excP_of {zs ys : List Int} {p q : Nat} {inc jnc : Int} (h : ∀ t, ole (eC zs p inc t) (eC ys q jnc t)) : ExcP (dC zs p inc ys q jnc) 0 false := by
  refine .inr ⟨rfl, rfl, fun t => ?_⟩
  cases h2 : eC ys q jnc t with
  | none =>
    have k2 := eC_none.1 h2
    unfold dC
    by_cases h1 : InfC zs ∧ atC zs p inc t = infV
    · rw [if_pos h1, if_pos k2]; omega
    · rw [if_neg h1, if_pos k2]; omega
  | some y =>
    obtain ⟨x, h1, hle⟩ := h t y h2
    have k1 : ¬ (InfC zs ∧ atC zs p inc t = infV) := fun hx => by rw [eC_none.2 hx] at h1; cases h1
    have k2 : ¬ (InfC ys ∧ atC ys q jnc t = infV) := fun hx => by rw [eC_none.2 hx] at h2; cases h2
    have e1 : atC zs p inc t = x := by rw [← enc_eC, h1]; rfl
    have e2 : atC ys q jnc t = y := by rw [← enc_eC, h2]; rfl
    unfold dC
    rw [if_neg k1, if_neg k2, e1, e2]; omega

end Go.Proofs.Ytknimlpdpgpliaa

namespace Go.Proofs.Ytknimlpdpgpliaa

section
variable {zs : List Int} {p : Nat} {inc : Int}

end

end Go.Proofs.Ytknimlpdpgpliaa

namespace Go.Proofs.Ytknimlpdpgpliaa

/-- From tick 16 on periodic by 24 ticks (or infinite), not decreasing, small up to tick 400. -/
structure Nice (K : Int) (E : Nat → Option Int) : Prop where
  up : ∀ t, E t = none → E (t + 1) = none
  mono : ∀ t x y, E t = some x → E (t + 1) = some y → x ≤ y
  bd : ∀ t x, t ≤ 400 → E t = some x → 0 ≤ x ∧ x ≤ K
  tail : (∀ t, 16 ≤ t → E t = none) ∨ ((∀ t, E t = some (encF E t)) ∧ ∃ c, Per (encF E) 16 24 c)

theorem encF_some {E : Nat → Option Int} {t : Nat} {x : Int} (h : E t = some x) : encF E t = x := by unfold encF; rw [h]; rfl
theorem encF_none {E : Nat → Option Int} {t : Nat} (h : E t = none) : encF E t = infV := by unfold encF; rw [h]; rfl

theorem per_none {E : Nat → Option Int} (h : ∀ t, 16 ≤ t → E t = none) : Per (encF E) 16 24 0 := fun t ht => by rw [encF_none (h t ht), encF_none (h (t + 24) (by omega))]; omega

theorem Nice.can {K : Int} {E : Nat → Option Int} (h : Nice K E) (hK : K ≤ 1000000000) : ECan E := by
  rcases h.tail with hn | ⟨hs, c, hp⟩
  · exact can_of_inf h.up (hn 399 (by omega)) (fun t x ht hx => by have := h.bd t x (by omega) hx; omega) h.mono
  · have b : ∀ t, t ≤ 400 → 0 ≤ encF E t ∧ encF E t ≤ K := fun t ht => h.bd t _ ht (hs t)
    refine can_fin hs hp (by omega) (by omega) (by omega) (b 0 (by omega)).1 (fun t _ => h.mono t _ _ (hs t) (hs (t + 1))) ?_ ?_
    · have := b (16 + 24 - 1) (by omega); omega
    · have e := hp 16 (by omega)
      have := b 16 (by omega)
      have := b (16 + 24) (by omega)
      omega

theorem Nice.per {K : Int} {E : Nat → Option Int} (h : Nice K E) : ∃ c, Per (encF E) 16 24 c := by
  rcases h.tail with hn | ⟨_, h⟩
  · exact ⟨0, fun t ht => by rw [encF_none (hn t ht), encF_none (hn (t + 24) (by omega))]; omega⟩
  · exact h

/-- The normal form of such a function is short, and its period divides 24. -/
theorem Nice.short {K : Int} {E : Nat → Option Int} (h : Nice K E) {zs : List Int} {p : Nat} {inc : Int} (f : EForm zs p inc E) : zs.length ≤ 40 ∧ 24 % p = 0 ∧ p ≤ 24 := by
  obtain ⟨c, hp⟩ := h.per
  obtain ⟨_, _, s, hs, hn⟩ := f.form
  have a1 := hn.start_le hp (by omega)
  have a2 := hn.per_le hp (by omega)
  have a3 := (hn.divides hp).1
  exact ⟨by omega, a3, a2⟩

/-- A curve's values are so, if its period divides 24 and it is short. -/
theorem nice_of {K : Int} {zs : List Int} {p : Nat} {inc : Int} (g : Good zs p inc) (hl : zs.length ≤ 16) (hd : 24 % p = 0) (hb : ∀ t x, t ≤ 400 → eC zs p inc t = some x → x ≤ K) : Nice K (eC zs p inc) := by
  refine ⟨fun t => eC_up g, fun t x y => eC_mono g, fun t x ht hx => ⟨(eC_bd g hx).1, hb t x ht hx⟩, ?_⟩
  by_cases hi : InfC zs
  · exact .inl fun t ht => eC_late g hi (by omega)
  · refine .inr ⟨fun t => ?_, ((24 / p : Nat) : Int) * inc, ?_⟩
    · rw [encF_some (eC_fin hi p inc t)]; exact eC_fin hi p inc t
    · have e : encF (eC zs p inc) = atC zs p inc := funext fun t => encF_some (eC_fin hi p inc t)
      rw [e]
      have h1 := (g.per hi).mul (24 / p)
      have h2 : 24 / p * p = 24 := by have := Nat.div_add_mod 24 p; rw [hd, Nat.mul_comm] at this; omega
      rw [h2] at h1
      exact h1.mono (by have := g.p1; omega)

theorem drawn_nice {most : Nat} {zs : List Int} {p : Nat} {inc : Int} (o : OkCur most zs p inc) (hm : most ≤ 9) : Nice 10000 (eC zs p inc) :=
  nice_of o.good (by have := o.few; omega) o.div fun _ _ ht hx => (drawn_400 o ht hx).2

theorem Nice.sum {K K' : Int} {E E' : Nat → Option Int} (h : Nice K E) (k : Nice K' E') : Nice (K + K') (fun t => oadd (E t) (E' t)) := by
  refine ⟨fun t hx => ?_, fun t x y hx hy => ?_, fun t x ht hx => ?_, ?_⟩
  · show oadd (E (t + 1)) (E' (t + 1)) = none
    replace hx : oadd (E t) (E' t) = none := hx
    cases h1 : E t with
    | none => rw [h.up t h1, oadd_none_l]
    | some u =>
      cases h2 : E' t with
      | none => rw [k.up t h2, oadd_none_r]
      | some v => rw [h1, h2] at hx; cases hx
  · obtain ⟨x1, x2, h1, h2, rfl⟩ := both_some hx
    obtain ⟨y1, y2, k1, k2, rfl⟩ := both_some hy
    have := h.mono t _ _ h1 k1
    have := k.mono t _ _ h2 k2
    omega
  · obtain ⟨x1, x2, h1, h2, rfl⟩ := both_some hx
    have := h.bd t _ ht h1
    have := k.bd t _ ht h2
    omega
  · rcases h.tail with hn | ⟨hs, c, hp⟩
    · exact .inl fun t ht => by show oadd (E t) (E' t) = none; rw [hn t ht, oadd_none_l]
    rcases k.tail with kn | ⟨ks, d, kp⟩
    · exact .inl fun t ht => by show oadd (E t) (E' t) = none; rw [kn t ht, oadd_none_r]
    have e : ∀ t, oadd (E t) (E' t) = some (encF E t + encF E' t) := fun t => by rw [hs t, ks t]; rfl
    have e2 : encF (fun t => oadd (E t) (E' t)) = fun t => encF E t + encF E' t := funext fun t => encF_some (e t)
    refine .inr ⟨fun t => by rw [e2]; exact e t, c + d, fun t ht => ?_⟩
    rw [e2]
    have := hp t ht
    have := kp t ht
    show encF E (t + 24) + encF E' (t + 24) = encF E t + encF E' t + (c + d)
    omega

/-- What is the curve of such a function has such values. -/
theorem Nice.of {K : Int} {E : Nat → Option Int} (h : Nice K E) {zs : List Int} {p : Nat} {inc : Int} (he : ∀ t, eC zs p inc t = E t) : Nice K (eC zs p inc) := by
  rw [show eC zs p inc = E from funext he]; exact h

theorem Nice.le {K K' : Int} {E : Nat → Option Int} (h : Nice K E) (hK : K ≤ K') : Nice K' E := ⟨h.up, h.mono, fun t x ht hx => by have := h.bd t x ht hx; omega, h.tail⟩

/-- The normal form's period divides 24 if from some tick on 24 is a period. -/
theorem NormC.div24 {zs zs' : List Int} {p p' : Nat} {inc inc' : Int} (g : Good zs p inc) (h : NormC zs p inc zs' p' inc') {s : Nat} {c : Int} (hp : Per (encF (eC zs p inc)) s 24 c) : 24 % p' = 0 := by
  obtain ⟨_, _, _, _, hn⟩ := (h.eform g).form
  exact (hn.divides hp).1

/-- The least common multiple of two divisors of 24 is one. -/
theorem lcm24 {a b : Nat} (ha : 24 % a = 0) (hb : 24 % b = 0) : 24 % (a / Nat.gcd a b * b) = 0 := by
  have e : a / Nat.gcd a b * b = Nat.lcm a b := by
    rw [Nat.lcm, Nat.mul_div_right_comm (Nat.gcd_dvd_left a b)]
  rw [e]
  exact Nat.mod_eq_zero_of_dvd (Nat.lcm_dvd (Nat.dvd_of_mod_eq_zero ha) (Nat.dvd_of_mod_eq_zero hb))

/-! ## The same from some tick on: minima and maxima -/

/-- In the end periodic by 24 ticks, and infinite or not. -/
def Day (E : Nat → Option Int) : Prop := ∃ s c, Per (encF E) s 24 c ∧ ((∀ t, s ≤ t → E t = none) ∨ ∀ t, s ≤ t → E t = some (encF E t))

theorem Day.per {E : Nat → Option Int} (h : Day E) : ∃ s c, Per (encF E) s 24 c := by obtain ⟨s, c, h, _⟩ := h; exact ⟨s, c, h⟩

theorem Nice.day {K : Int} {E : Nat → Option Int} (h : Nice K E) : Day E := by
  obtain ⟨c, hp⟩ := h.per
  rcases h.tail with hn | ⟨hs, _⟩
  · exact ⟨16, c, hp, .inl hn⟩
  · exact ⟨16, c, hp, .inr fun t _ => hs t⟩

theorem Day.of {E : Nat → Option Int} (h : Day E) {zs : List Int} {p : Nat} {inc : Int} (he : ∀ t, eC zs p inc t = E t) : Day (eC zs p inc) := by rw [show eC zs p inc = E from funext he]; exact h

theorem day_none {E : Nat → Option Int} {s : Nat} (h : ∀ t, s ≤ t → E t = none) : Day E :=
  ⟨s, 0, fun t ht => by rw [encF_none (h t ht), encF_none (h (t + 24) (by omega))]; omega, .inl h⟩

theorem day_some {E : Nat → Option Int} {F : Nat → Int} {s : Nat} {c : Int} (h : ∀ t, s ≤ t → E t = some (F t)) (hp : Per F s 24 c) : Day E :=
  ⟨s, c, fun t ht => by rw [encF_some (h t ht), encF_some (h (t + 24) (by omega))]; exact hp t ht, .inr fun t ht => by rw [encF_some (h t ht)]; exact h t ht⟩

theorem Day.min {E E' : Nat → Option Int} (h : Day E) (k : Day E') : Day (fun t => omin (E t) (E' t)) := by
  obtain ⟨s, c, hp, hn | hs⟩ := h
  · obtain ⟨s', c', kp, kn | ks⟩ := k
    · exact day_none (s := max s s') fun t ht => by show omin (E t) (E' t) = none; rw [hn t (by omega), kn t (by omega)]; rfl
    · exact day_some (s := max s s') (F := encF E') (fun t ht => by show omin (E t) (E' t) = _; rw [hn t (by omega), ks t (by omega)]; rfl) (kp.mono (by omega))
  · obtain ⟨s', c', kp, kn | ks⟩ := k
    · exact day_some (s := max s s') (F := encF E) (fun t ht => by show omin (E t) (E' t) = _; rw [hs t (by omega), kn t (by omega)]; rfl) (hp.mono (by omega))
    · obtain ⟨S, hS⟩ := min_late (hp.mono (show s ≤ s + s' by omega)) (kp.mono (show s' ≤ s + s' by omega)) (show 1 ≤ 24 by omega)
      exact day_some (s := s + s' + S) (F := minF (encF E) (encF E')) (fun t ht => by
        show omin (E t) (E' t) = some (Min.min (encF E t) (encF E' t))
        have e1 := hs t (by omega)
        have e2 := ks t (by omega)
        rw [e1, e2]; rfl) (hS.mono (by omega))

theorem Day.max {E E' : Nat → Option Int} (h : Day E) (k : Day E') : Day (fun t => omax (E t) (E' t)) := by
  obtain ⟨s, c, hp, hn | hs⟩ := h
  · exact day_none (s := s) fun t ht => by show omax (E t) (E' t) = none; rw [hn t (by omega), omax_none_l]
  · obtain ⟨s', c', kp, kn | ks⟩ := k
    · exact day_none (s := s') fun t ht => by show omax (E t) (E' t) = none; rw [kn t (by omega), omax_none_r]
    · obtain ⟨S, hS⟩ := max_late (hp.mono (show s ≤ s + s' by omega)) (kp.mono (show s' ≤ s + s' by omega)) (show 1 ≤ 24 by omega)
      exact day_some (s := s + s' + S) (F := maxF (encF E) (encF E')) (fun t ht => by
        show omax (E t) (E' t) = some (Max.max (encF E t) (encF E' t))
        have e1 := hs t (by omega)
        have e2 := ks t (by omega)
        rw [e1, e2]; rfl) (hS.mono (by omega))

theorem Day.sum {E E' : Nat → Option Int} (h : Day E) (k : Day E') : Day (fun t => oadd (E t) (E' t)) := by
  obtain ⟨s, c, hp, hn | hs⟩ := h
  · exact day_none (s := s) fun t ht => by show oadd (E t) (E' t) = none; rw [hn t ht, oadd_none_l]
  · obtain ⟨s', c', kp, kn | ks⟩ := k
    · exact day_none (s := s') fun t ht => by show oadd (E t) (E' t) = none; rw [kn t ht, oadd_none_r]
    · refine day_some (s := s + s') (F := fun t => encF E t + encF E' t) (c := c + c') (fun t ht => ?_) (fun t ht => ?_)
      · show oadd (E t) (E' t) = _
        have e1 := hs t (by omega)
        have e2 := ks t (by omega)
        rw [e1, e2]; rfl
      · have := hp t (by omega)
        have := kp t (by omega)
        show encF E (t + 24) + encF E' (t + 24) = encF E t + encF E' t + (c + c')
        omega

/-- The periods of the normal forms of two such curves have a multiple of at most 24. -/
theorem day_lcm {z1 z2 : List Int} {p1 p2 : Nat} {i1 i2 : Int} (g1 : Good z1 p1 i1) (g2 : Good z2 p2 i2) (h1 : Day (eC z1 p1 i1)) (h2 : Day (eC z2 p2 i2)) {y1 y2 : List Int} {q1 q2 : Nat} {j1 j2 : Int} (n1 : NormC z1 p1 i1 y1 q1 j1) (n2 : NormC z2 p2 i2 y2 q2 j2) : q1 / Nat.gcd q1 q2 * q2 ≤ 24 := by
  obtain ⟨s1, c1, k1⟩ := h1.per
  obtain ⟨s2, c2, k2⟩ := h2.per
  have a := n1.div24 g1 k1
  have b := n2.div24 g2 k2
  have := lcm24 a b
  exact Nat.le_of_dvd (by omega) (Nat.dvd_of_mod_eq_zero this)

/-! ## What a reduction needs -/

/-- Constant from tick 16 on, or at least 20 from tick 250 on. -/
def Low (E : Nat → Option Int) : Prop := Per (encF E) 16 24 0 ∨ ∀ t x, 250 ≤ t → E t = some x → 20 ≤ x

theorem drawn_low {most : Nat} {zs : List Int} {p : Nat} {inc : Int} (o : OkCur most zs p inc) (hm : most ≤ 9) : Low (eC zs p inc) := by
  have g := o.good
  have a1 := g.p1; have a2 := g.p3; have a3 := o.few; have a4 := o.p8; have a5 := g.i0
  by_cases hi : InfC zs
  · exact .inl fun t ht => by rw [encF_none (eC_late g hi (by omega)), encF_none (eC_late g hi (by omega))]; omega
  · by_cases h0 : inc = 0
    · subst h0
      have e : encF (eC zs p 0) = atC zs p 0 := funext fun t => encF_some (eC_fin hi p 0 t)
      refine .inl ?_
      rw [e]
      have h1 := (g.per hi).mul (24 / p)
      have h2 : 24 / p * p = 24 := by have := Nat.div_add_mod 24 p; rw [o.div, Nat.mul_comm] at this; omega
      rw [h2, Int.mul_zero] at h1
      exact h1.mono (by omega)
    · refine .inr fun t x ht hx => ?_
      rw [eC_fin hi] at hx; cases hx
      have h1 := ((g.per hi).mul 29) 16 (by omega)
      have h2 := g.up (t - (16 + 29 * p)) (16 + 29 * p)
      rw [show 16 + 29 * p + (t - (16 + 29 * p)) = t by omega] at h2
      have h3 := (g.bd hi 16).1
      have h4 : ((29 : Nat) : Int) * 1 ≤ ((29 : Nat) : Int) * inc := Int.mul_le_mul_of_nonneg_left (by omega) (by omega)
      omega

theorem Low.sum {K K' : Int} {E E' : Nat → Option Int} (h : Low E) (k : Low E') (n : Nice K E) (m : Nice K' E') (h0 : ∀ t x, E t = some x → 0 ≤ x) (k0 : ∀ t x, E' t = some x → 0 ≤ x) : Low (fun t => oadd (E t) (E' t)) := by
  rcases h with h | h
  · rcases k with k | k
    · rcases n.tail with nn | ⟨ns, _⟩
      · exact .inl (per_none fun t ht => by show oadd (E t) (E' t) = none; rw [nn t ht, oadd_none_l])
      rcases m.tail with mn | ⟨ms, _⟩
      · exact .inl (per_none fun t ht => by show oadd (E t) (E' t) = none; rw [mn t ht, oadd_none_r])
      have e : ∀ t, oadd (E t) (E' t) = some (encF E t + encF E' t) := fun t => by rw [ns t, ms t]; rfl
      have e2 : encF (fun t => oadd (E t) (E' t)) = fun t => encF E t + encF E' t := funext fun t => encF_some (e t)
      refine .inl fun t ht => ?_
      rw [e2]
      have := h t ht
      have := k t ht
      show encF E (t + 24) + encF E' (t + 24) = encF E t + encF E' t + 0
      omega
    · refine .inr fun t x ht hx => ?_
      obtain ⟨y, z, h1, h2, rfl⟩ := both_some hx
      have := h0 t y h1
      have := k t z ht h2
      omega
  · refine .inr fun t x ht hx => ?_
    obtain ⟨y, z, h1, h2, rfl⟩ := both_some hx
    have := k0 t z h2
    have := h t y ht h1
    omega

theorem Low.form {E : Nat → Option Int} (h : Low E) {zs : List Int} {p : Nat} {inc : Int} (f : EForm zs p inc E) (hf : ¬ InfC zs) : inc = 0 ∨ ∀ t, 250 ≤ t → 20 ≤ atC zs p inc t := by
  rcases h with h | h
  · obtain ⟨_, _, s, _, hn⟩ := f.form
    obtain ⟨h1, h2⟩ := hn.divides h
    have hp := hn.pos
    have h3 : p ≤ 24 := hn.per_le h (by omega)
    have h4 : 1 ≤ 24 / p := (Nat.one_le_div_iff (by omega)).2 h3
    rcases Int.mul_eq_zero.1 h2.symm with h5 | h5
    · omega
    · exact .inl h5
  · refine .inr fun t ht => h t _ ht ?_
    rw [← f.2.1 t, eC_fin hf]

/-! ## Greater curves have greater results -/

theorem ole_more {zs ys xs : List Int} {p q r : Nat} {inc jnc knc : Int} (k : Good ys q jnc) (he : ∀ t, eC xs r knc t = eSum zs p inc ys q jnc t) (t : Nat) : ole (eC zs p inc t) (eC xs r knc t) := by
  rw [he]; exact ole_oadd fun y hy => (eC_bd k hy).1
/-- Two curves made so compare so. -/
theorem exc_of {E E' : Nat → Option Int} (h : ∀ t, ole (E t) (E' t)) {zs ys : List Int} {p q : Nat} {inc jnc : Int} (f : EForm zs p inc E) (k : EForm ys q jnc E') : ExcP (dC zs p inc ys q jnc) 0 false :=
  excP_of fun t => by rw [f.2.1 t, k.2.1 t]; exact h t

end Go.Proofs.Ytknimlpdpgpliaa

namespace Go.Proofs.Ytknimlpdpgpliaa

/-! ## Sums, minima and maxima distribute -/

theorem oadd_comm (a b : Option Int) : oadd a b = oadd b a := by
  cases a <;> cases b <;> try rfl
  rename_i x y
  show some (x + y) = some (y + x)
  congr 1; omega
theorem oadd_assoc (a b c : Option Int) : oadd (oadd a b) c = oadd a (oadd b c) := by
  cases a <;> cases b <;> cases c <;> try rfl
  rename_i x y z
  show some (x + y + z) = some (x + (y + z))
  congr 1; omega

end Go.Proofs.Ytknimlpdpgpliaa

namespace Go.Proofs.Ytknimlpdpgpliaa
set_option linter.unusedVariables false

/-- What is left of a value when another one is taken away; none is infinite. -/
def osub : Option Int → Option Int → Option Int
  | _, none => some 0
  | none, some _ => none
  | some x, some y => some (max 0 (x - y))
theorem osub_r (x : Option Int) : osub x none = some 0 := by cases x <;> rfl
theorem osub_nn {a b : Option Int} {z : Int} (h : osub a b = some z) : 0 ≤ z := by
  cases b with
  | none => rw [osub_r] at h; cases h; omega
  | some y =>
    cases a with
    | none => cases h
    | some x => cases h; omega
theorem osub_none {a b : Option Int} (h : osub a b = none) : a = none ∧ ∃ y, b = some y := by
  cases b with
  | none => rw [osub_r] at h; cases h
  | some y =>
    cases a with
    | none => exact ⟨rfl, y, rfl⟩
    | some x => cases h
theorem ole_osub {a b c d : Option Int} (h : ole a b) (k : ole c d) : ole (osub a d) (osub b c) := by
  intro y hy
  cases c with
  | none =>
    cases d with
    | none => rw [osub_r] at hy ⊢; exact ⟨0, rfl, by cases hy; omega⟩
    | some v => obtain ⟨x, hx, _⟩ := k v rfl; cases hx
  | some u =>
    cases b with
    | none => cases hy
    | some z =>
      obtain ⟨x, rfl, hx⟩ := h z rfl
      cases hy
      cases d with
      | none => exact ⟨0, osub_r _, by omega⟩
      | some v =>
        obtain ⟨u', hu, hv⟩ := k v rfl
        cases hu
        exact ⟨_, rfl, by omega⟩
theorem eq_add_of_sub {a b c : Int} (h : a - b = c) : a = b + c := by omega
theorem ole_anti {a b : Option Int} (h : ole a b) (k : ole b a) : a = b := by
  cases b with
  | some y =>
    obtain ⟨x, rfl, hx⟩ := h y rfl
    obtain ⟨z, hz, hy⟩ := k x rfl
    cases hz
    congr 1; omega
  | none =>
    cases a with
    | none => rfl
    | some x => obtain ⟨z, hz, _⟩ := k x rfl; cases hz
theorem ole_omax_of {a b c : Option Int} (h : ole a c) (k : ole b c) : ole (omax a b) c := by
  intro y hy
  obtain ⟨x, rfl, hx⟩ := h y hy
  obtain ⟨z, rfl, hz⟩ := k y hy
  exact ⟨_, rfl, by omega⟩
theorem ole_of_enc {a b : Option Int} (hb : ∀ y, b = some y → y < infV) (h : enc a ≤ enc b) : ole a b := by
  intro y hy
  have := hb y hy
  subst hy
  cases a with
  | none => change infV ≤ y at h; omega
  | some x => exact ⟨x, rfl, h⟩

/-! ## The greatest so far -/

def maxO (D : Nat → Option Int) : Nat → Option Int
  | 0 => D 0
  | t + 1 => omax (maxO D t) (D (t + 1))
section
variable {D D' : Nat → Option Int}
theorem maxO_up {t : Nat} (h : maxO D t = none) : maxO D (t + 1) = none := by show omax (maxO D t) _ = none; rw [h, omax_none_l]
theorem maxO_step (D : Nat → Option Int) (t : Nat) : ole (maxO D t) (maxO D (t + 1)) := ole_omax_l _ _
theorem maxO_mono (D : Nat → Option Int) (t : Nat) : ∀ k, ole (maxO D t) (maxO D (t + k))
  | 0 => ole_refl _
  | k + 1 => ole_trans (maxO_mono D t k) (maxO_step D (t + k))
theorem maxO_at (D : Nat → Option Int) (t : Nat) : ole (D t) (maxO D t) := by
  cases t with
  | zero => exact ole_refl _
  | succ t => exact ole_omax_r _ _
theorem maxO_ole (D : Nat → Option Int) {s t : Nat} (h : s ≤ t) : ole (D s) (maxO D t) := by
  have := ole_trans (maxO_at D s) (maxO_mono D s (t - s))
  rwa [show s + (t - s) = t by omega] at this
theorem maxO_least {b : Nat → Option Int} (hb : ∀ t, ole (b t) (b (t + 1))) (h : ∀ t, ole (D t) (b t)) : ∀ t, ole (maxO D t) (b t)
  | 0 => h 0
  | t + 1 => ole_omax_of (ole_trans (maxO_least hb h t) (hb t)) (h (t + 1))
theorem maxO_le (h : ∀ t, ole (D t) (D' t)) : ∀ t, ole (maxO D t) (maxO D' t) := maxO_least (maxO_step D') fun t => ole_trans (h t) (maxO_at D' t)
theorem maxO_self (h : ∀ t, ole (D t) (D (t + 1))) : maxO D = D := funext fun t => ole_anti (maxO_least h (fun t => ole_refl _) t) (maxO_at D t)
theorem maxO_some (h : ∀ t x, D t = some x → 0 ≤ x) {t : Nat} {x : Int} (hx : maxO D t = some x) : ∃ s, s ≤ t ∧ D s = some x := by
  induction t generalizing x with
  | zero => exact ⟨0, Nat.le_refl _, hx⟩
  | succ t ih =>
    obtain ⟨y, z, hy, hz, rfl⟩ := both_some_max hx
    by_cases hl : y ≤ z
    · exact ⟨t + 1, Nat.le_refl _, by rw [hz]; congr 1; omega⟩
    · obtain ⟨s, hs, e⟩ := ih hy
      exact ⟨s, by omega, by rw [e]; congr 1; omega⟩
end

/-- The greatest number so far. -/
def rmax (x : Nat → Int) : Nat → Int
  | 0 => x 0
  | t + 1 => max (rmax x t) (x (t + 1))
theorem maxO_rmax {D : Nat → Option Int} {x : Nat → Int} (h : ∀ t, D t = some (x t)) : ∀ t, maxO D t = some (rmax x t)
  | 0 => h 0
  | t + 1 => by show omax (maxO D t) (D (t + 1)) = _; rw [maxO_rmax h t, h]; rfl
theorem rmax_mono (x : Nat → Int) (t : Nat) : ∀ k, rmax x t ≤ rmax x (t + k)
  | 0 => Int.le_refl _
  | k + 1 => by have := rmax_mono x t k; show _ ≤ max (rmax x (t + k)) _; omega
theorem rmax_at (x : Nat → Int) (t : Nat) : x t ≤ rmax x t := by
  cases t with
  | zero => exact Int.le_refl _
  | succ t => show _ ≤ max (rmax x t) (x (t + 1)); omega
theorem rmax_ge (x : Nat → Int) {s t : Nat} (h : s ≤ t) : x s ≤ rmax x t := by
  have h1 := rmax_at x s
  have h2 := rmax_mono x s (t - s)
  rw [show s + (t - s) = t by omega] at h2
  omega
theorem rmax_found (x : Nat → Int) : ∀ t, ∃ s, s ≤ t ∧ x s = rmax x t
  | 0 => ⟨0, Nat.le_refl _, rfl⟩
  | t + 1 => by
    obtain ⟨s, hs, e⟩ := rmax_found x t
    by_cases h : rmax x t ≤ x (t + 1)
    · exact ⟨t + 1, Nat.le_refl _, by show _ = max (rmax x t) (x (t + 1)); omega⟩
    · exact ⟨s, by omega, by show _ = max (rmax x t) (x (t + 1)); omega⟩

section
variable {d : Nat → Int} {S L : Nat} {δ : Int}
theorem rmax_from (hd : Per d S L δ) (hL : 1 ≤ L) {T : Nat} (hT : S ≤ T) (h : rmax (fun t => max 0 (d t)) (T + L) = rmax (fun t => max 0 (d t)) T + max 0 δ) : Per (rmax (fun t => max 0 (d t))) T L (max 0 δ) := by
  intro t ht
  obtain ⟨k, rfl⟩ : ∃ k, t = T + k := ⟨t - T, by omega⟩
  clear ht
  induction k with
  | zero => exact h
  | succ k ih =>
    have ih := ih
    have e1 : rmax (fun t => max 0 (d t)) (T + (k + 1) + L) = max (rmax (fun t => max 0 (d t)) (T + k + L)) (max 0 (d (T + (k + 1) + L))) := by
      rw [show T + (k + 1) + L = (T + k + L) + 1 by omega]; rfl
    have e2 : rmax (fun t => max 0 (d t)) (T + (k + 1)) = max (rmax (fun t => max 0 (d t)) (T + k)) (max 0 (d (T + (k + 1)))) := rfl
    have e3 := hd (T + (k + 1)) (by omega)
    have e4 := rmax_mono (fun t => max 0 (d t)) (T + (k + 1)) (L - 1)
    rw [show T + (k + 1) + (L - 1) = T + k + L by omega] at e4
    have e5 := rmax_ge (fun t => max 0 (d t)) (show T + k ≤ T + k from Nat.le_refl _)
    have e6 : 0 ≤ max 0 (d (T + k)) := by omega
    generalize rmax (fun t => max 0 (d t)) (T + (k + 1) + L) = m1 at *
    generalize rmax (fun t => max 0 (d t)) (T + k + L) = m2 at *
    generalize rmax (fun t => max 0 (d t)) (T + (k + 1)) = m3 at *
    generalize rmax (fun t => max 0 (d t)) (T + k) = m4 at *
    omega

theorem rmax_late (hd : Per d S L δ) (hL : 1 ≤ L) : ∃ T, Per (rmax (fun t => max 0 (d t))) T L (max 0 δ) := by
  have hx : ∀ t, max 0 (d t) = (fun t => max 0 (d t)) t := fun _ => rfl
  by_cases h0 : δ ≤ 0
  · refine ⟨S + L, rmax_from hd hL (by omega) ?_⟩
    have h1 := rmax_mono (fun t => max 0 (d t)) (S + L) L
    obtain ⟨s, hs, e⟩ := rmax_found (fun t => max 0 (d t)) (S + L + L)
    have h2 : rmax (fun t => max 0 (d t)) (S + L + L) ≤ rmax (fun t => max 0 (d t)) (S + L) := by
      rw [← e]
      by_cases hs1 : s ≤ S + L
      · exact rmax_ge _ hs1
      · have h3 := rmax_ge (fun t => max 0 (d t)) (show s - L ≤ S + L by omega)
        have h4 := hd (s - L) (by omega)
        rw [show s - L + L = s by omega] at h4
        show max 0 (d s) ≤ _
        have h5 : max 0 (d (s - L)) ≤ rmax (fun t => max 0 (d t)) (S + L) := h3
        omega
    omega
  · have hB : 0 ≤ rmax (fun t => max 0 (d t)) (S + L) := by
      have h5 : max 0 (d (S + L)) ≤ _ := rmax_at (fun t => max 0 (d t)) (S + L)
      omega
    obtain ⟨k, hk⟩ : ∃ k : Nat, rmax (fun t => max 0 (d t)) (S + L) < d S + (k : Int) * δ := by
      refine ⟨(rmax (fun t => max 0 (d t)) (S + L) - d S).toNat + 1, ?_⟩
      have h1 : (((rmax (fun t => max 0 (d t)) (S + L) - d S).toNat + 1 : Nat) : Int) * 1 ≤ (((rmax (fun t => max 0 (d t)) (S + L) - d S).toNat + 1 : Nat) : Int) * δ := Int.mul_le_mul_of_nonneg_left (by omega) (by omega)
      omega
    have hk2 := hd.mul k S (Nat.le_refl _)
    have hT : rmax (fun t => max 0 (d t)) (S + L) < rmax (fun t => max 0 (d t)) (S + L + k * L) := by
      have h1 : max 0 (d (S + k * L)) ≤ _ := rmax_ge (fun t => max 0 (d t)) (show S + k * L ≤ S + L + k * L by omega)
      omega
    generalize hTe : S + L + k * L = T at hT
    have hST : S + L ≤ T := by omega
    refine ⟨T, rmax_from hd hL (by omega) ?_⟩
    have h1 : rmax (fun t => max 0 (d t)) (T + L) ≤ rmax (fun t => max 0 (d t)) T + δ := by
      obtain ⟨s, hs, e⟩ := rmax_found (fun t => max 0 (d t)) (T + L)
      rw [← e]
      show max 0 (d s) ≤ _
      by_cases hs1 : s ≤ S + L
      · have h3 : max 0 (d s) ≤ _ := rmax_ge (fun t => max 0 (d t)) hs1
        omega
      · have h3 : max 0 (d (s - L)) ≤ _ := rmax_ge (fun t => max 0 (d t)) (show s - L ≤ T by omega)
        have h4 := hd (s - L) (by omega)
        rw [show s - L + L = s by omega] at h4
        omega
    have h2 : rmax (fun t => max 0 (d t)) T + δ ≤ rmax (fun t => max 0 (d t)) (T + L) := by
      obtain ⟨s, hs, e⟩ := rmax_found (fun t => max 0 (d t)) T
      have e : max 0 (d s) = rmax (fun t => max 0 (d t)) T := e
      have hs1 : S + L < s := by
        refine Nat.lt_of_not_le fun hle => ?_
        have h3 : max 0 (d s) ≤ _ := rmax_ge (fun t => max 0 (d t)) hle
        omega
      have h4 := hd s (by omega)
      have h5 : max 0 (d (s + L)) ≤ _ := rmax_ge (fun t => max 0 (d t)) (show s + L ≤ T + L by omega)
      omega
    omega
end

/-! ## The least from a tick on -/

def IsLow (D : Nat → Option Int) (t : Nat) (v : Option Int) : Prop := (∃ s, t ≤ s ∧ D s = v) ∧ ∀ s, t ≤ s → ole v (D s)
theorem IsLow.unique {D : Nat → Option Int} {t : Nat} {u v : Option Int} (h : IsLow D t u) (k : IsLow D t v) : u = v := by
  obtain ⟨⟨s, hs, rfl⟩, h1⟩ := h
  obtain ⟨⟨r, hr, rfl⟩, k1⟩ := k
  exact ole_anti (h1 r hr) (k1 s hs)
theorem low_ex {D : Nat → Option Int} (hD : ∀ t x, D t = some x → 0 ≤ x) (t : Nat) : ∃ v, IsLow D t v := by
  by_cases h : ∃ n : Nat, ∃ s, t ≤ s ∧ D s = some (n : Int)
  · obtain ⟨n, ⟨s, hs, e⟩, hm⟩ := least_ex h
    refine ⟨some (n : Int), ⟨s, hs, e⟩, fun r hr y hy => ⟨_, rfl, ?_⟩⟩
    have h0 := hD r y hy
    obtain ⟨m, rfl⟩ := Int.eq_ofNat_of_zero_le h0
    have : ¬ m < n := fun hlt => hm m hlt ⟨r, hr, hy⟩
    omega
  · have hn : ∀ s, t ≤ s → D s = none := fun s hs => by
      cases e : D s with
      | none => rfl
      | some y =>
        obtain ⟨m, rfl⟩ := Int.eq_ofNat_of_zero_le (hD s y e)
        exact absurd ⟨m, s, hs, e⟩ h
    exact ⟨none, ⟨t, Nat.le_refl _, hn t (Nat.le_refl _)⟩, fun s hs => by rw [hn s hs]; exact ole_refl _⟩
noncomputable def minO (D : Nat → Option Int) (t : Nat) : Option Int := open Classical in if h : ∃ v, IsLow D t v then Classical.choose h else none
theorem minO_is {D : Nat → Option Int} (hD : ∀ t x, D t = some x → 0 ≤ x) (t : Nat) : IsLow D t (minO D t) := by
  have h := low_ex hD t
  unfold minO
  rw [dif_pos h]
  exact Classical.choose_spec h
theorem minO_eq {D : Nat → Option Int} {t : Nat} {v : Option Int} (h : IsLow D t v) : minO D t = v := by
  unfold minO
  rw [dif_pos ⟨v, h⟩]
  exact (Classical.choose_spec (⟨v, h⟩ : ∃ v, IsLow D t v)).unique h
section
variable {D D' : Nat → Option Int}
theorem minO_le (hD : ∀ t x, D t = some x → 0 ≤ x) {s t : Nat} (h : t ≤ s) : ole (minO D t) (D s) := (minO_is hD t).2 s h
theorem minO_mono (hD : ∀ t x, D t = some x → 0 ≤ x) (t : Nat) : ole (minO D t) (minO D (t + 1)) := by
  obtain ⟨s, hs, e⟩ := (minO_is hD (t + 1)).1
  rw [← e]
  exact minO_le hD (by omega)
theorem minO_great (hD : ∀ t x, D t = some x → 0 ≤ x) {v : Option Int} {t : Nat} (h : ∀ s, t ≤ s → ole v (D s)) : ole v (minO D t) := by
  obtain ⟨s, hs, e⟩ := (minO_is hD t).1
  rw [← e]; exact h s hs
theorem minO_all (hD : ∀ t x, D t = some x → 0 ≤ x) (hD' : ∀ t x, D' t = some x → 0 ≤ x) (h : ∀ t, ole (D t) (D' t)) (t : Nat) : ole (minO D t) (minO D' t) :=
  minO_great hD' fun s hs => ole_trans (minO_le hD hs) (h s)
theorem minO_self (hD : ∀ t x, D t = some x → 0 ≤ x) (h : ∀ t, ole (D t) (D (t + 1))) : minO D = D := funext fun t => minO_eq ⟨⟨t, Nat.le_refl _, rfl⟩, fun s hs => by
  have hk : ∀ k, ole (D t) (D (t + k)) := fun k => by
    induction k with
    | zero => exact ole_refl _
    | succ k ih => exact ole_trans ih (h _)
  have := hk (s - t)
  rwa [show t + (s - t) = s by omega] at this⟩
theorem minO_up (hD : ∀ t x, D t = some x → 0 ≤ x) {t : Nat} (h : minO D t = none) : minO D (t + 1) = none := by
  have := minO_mono hD t
  cases e : minO D (t + 1) with
  | none => rfl
  | some y => obtain ⟨x, hx, _⟩ := this y e; rw [h] at hx; cases hx
theorem minO_nn (hD : ∀ t x, D t = some x → 0 ≤ x) {t : Nat} {x : Int} (h : minO D t = some x) : 0 ≤ x := by
  obtain ⟨s, hs, e⟩ := (minO_is hD t).1
  exact hD s x (e.trans h)

/-- Where a window decides, as each tick behind it has one in it that is no greater. -/
theorem low_window {N t : Nat} {v : Option Int} (h1 : ∃ s, t ≤ s ∧ s < N ∧ D s = v) (h2 : ∀ s, t ≤ s → s < N → ole v (D s)) (h3 : ∀ s, N ≤ s → ∃ r, t ≤ r ∧ r < N ∧ ole (D r) (D s)) : IsLow D t v := by
  obtain ⟨s, hs, _, e⟩ := h1
  refine ⟨⟨s, hs, e⟩, fun s hs => ?_⟩
  by_cases h : s < N
  · exact h2 s hs h
  · obtain ⟨r, r1, r2, r3⟩ := h3 s (by omega)
    exact ole_trans (h2 r r1 r2) r3
/-- Where the numbers grow by the same in each period, so does the least. -/
theorem low_shift {x : Nat → Int} {S L t : Nat} {δ v : Int} (hx : ∀ t, S ≤ t → D t = some (x t)) (hp : Per x S L δ) (ht : S ≤ t) (h : IsLow D t (some v)) : IsLow D (t + L) (some (v + δ)) := by
  obtain ⟨⟨s, hs, e⟩, hl⟩ := h
  rw [hx s (by omega)] at e
  refine ⟨⟨s + L, by omega, ?_⟩, fun r hr => ?_⟩
  · rw [hx _ (by omega), hp s (by omega)]
    cases e; rfl
  · have h1 := hl (r - L) (by omega)
    rw [hx _ (by omega)] at h1 ⊢
    obtain ⟨y, hy, hle⟩ := h1 _ rfl
    cases hy
    have h2 := hp (r - L) (by omega)
    rw [show r - L + L = r by omega] at h2
    exact ole_some (by omega)
end

/-- The least of the numbers from t to t + k. -/
def minK (F : Nat → Int) : Nat → Nat → Int
  | 0, t => F t
  | k + 1, t => min (F t) (minK F k (t + 1))
theorem minK_le (F : Nat → Int) : ∀ (k t s : Nat), t ≤ s → s ≤ t + k → minK F k t ≤ F s
  | 0, t, s, h1, h2 => by have : s = t := by omega
                          subst this; exact Int.le_refl _
  | k + 1, t, s, h1, h2 => by
    show min (F t) (minK F k (t + 1)) ≤ F s
    by_cases h : s = t
    · subst h; omega
    · have := minK_le F k (t + 1) s (by omega) (by omega)
      omega
theorem minK_found (F : Nat → Int) : ∀ (k t : Nat), ∃ s, t ≤ s ∧ s ≤ t + k ∧ F s = minK F k t
  | 0, t => ⟨t, Nat.le_refl _, Nat.le_refl _, rfl⟩
  | k + 1, t => by
    obtain ⟨s, h1, h2, e⟩ := minK_found F k (t + 1)
    by_cases h : F t ≤ minK F k (t + 1)
    · exact ⟨t, Nat.le_refl _, by omega, by show F t = min (F t) (minK F k (t + 1)); omega⟩
    · exact ⟨s, by omega, by omega, by show F s = min (F t) (minK F k (t + 1)); omega⟩
theorem minK_low {D : Nat → Option Int} {t k : Nat} (hb : ∀ s y, t ≤ s → s ≤ t + k → D s = some y → y < infV) (h3 : ∀ s, t + k < s → ∃ r, t ≤ r ∧ r ≤ t + k ∧ ole (D r) (D s)) (hD : ∀ t x, D t = some x → 0 ≤ x) : enc (minO D t) = minK (encF D) k t := by
  obtain ⟨s, h1, h2, e⟩ := minK_found (encF D) k t
  have hl : IsLow D t (D s) := low_window (N := t + k + 1) ⟨s, h1, by omega, rfl⟩ (fun r r1 r2 => ole_of_enc (fun y hy => hb r y r1 (by omega) hy) (by
    show encF D s ≤ encF D r
    rw [e]; exact minK_le _ _ _ _ r1 (by omega))) fun r hr => by
      obtain ⟨u, u1, u2, u3⟩ := h3 r (by omega)
      exact ⟨u, u1, by omega, u3⟩
  rw [minO_eq hl]
  exact e

/-! ## The differences of two curves -/

/-- A common multiple of two periods. -/
structure Mult (p q L : Nat) : Prop where
  one : 1 ≤ L
  dp : L / p * p = L
  dq : L / q * q = L
theorem Lcm.mult {p q L : Nat} (h : Lcm p q L) : Mult p q L := ⟨h.one, h.dp, h.dq⟩


noncomputable def eDif (zs : List Int) (p : Nat) (inc : Int) (ys : List Int) (q : Nat) (jnc : Int) (t : Nat) : Option Int := osub (eC zs p inc t) (eC ys q jnc t)
noncomputable def eRest (zs : List Int) (p : Nat) (inc : Int) (ys : List Int) (q : Nat) (jnc : Int) : Nat → Option Int := maxO (eDif zs p inc ys q jnc)
noncomputable def eAbove (zs : List Int) (p : Nat) (inc : Int) (ys : List Int) (q : Nat) (jnc : Int) : Nat → Option Int := minO (eDif zs p inc ys q jnc)

/-- By how much the extremes grow in a common period, in the long run. -/
noncomputable def restG (zs : List Int) (p : Nat) (inc : Int) (ys : List Int) (q : Nat) (jnc : Int) (L : Nat) : Int :=
  open Classical in if InfC zs ∨ InfC ys then 0 else max 0 (((L / p : Nat) : Int) * inc - ((L / q : Nat) : Int) * jnc)

section
variable {zs ys : List Int} {p q : Nat} {inc jnc : Int}
theorem restG_fin (f1 : ¬ InfC zs) (f2 : ¬ InfC ys) {L : Nat} : restG zs p inc ys q jnc L = max 0 (((L / p : Nat) : Int) * inc - ((L / q : Nat) : Int) * jnc) := by unfold restG; rw [if_neg (fun h => h.elim f1 f2)]
theorem restG_inf (h : InfC zs ∨ InfC ys) {L : Nat} : restG zs p inc ys q jnc L = 0 := by unfold restG; rw [if_pos h]
theorem restG_low (g : Good zs p inc) (k : Good ys q jnc) {L : Nat} (hL : L ≤ 120) : 0 ≤ restG zs p inc ys q jnc L ∧ restG zs p inc ys q jnc L ≤ 1099511627776 := by
  by_cases h : InfC zs ∨ InfC ys
  · rw [restG_inf h]; omega
  · rw [restG_fin (fun x => h (.inl x)) (fun x => h (.inr x))]
    have a := (fin_low g (fun x => h (.inl x)) hL).1
    have b := (fin_low k (fun x => h (.inr x)) hL).1
    omega
theorem eDif_nn {t : Nat} {x : Int} (h : eDif zs p inc ys q jnc t = some x) : 0 ≤ x := osub_nn h
theorem eDif_bd (g : Good zs p inc) (k : Good ys q jnc) {t : Nat} {x : Int} (h : eDif zs p inc ys q jnc t = some x) : 0 ≤ x ∧ x ≤ 1073741824 * ((t : Int) + 1) := by
  refine ⟨eDif_nn h, ?_⟩
  unfold eDif at h
  cases hy : eC ys q jnc t with
  | none => rw [hy, osub_r] at h; cases h; omega
  | some y =>
    cases hz : eC zs p inc t with
    | none => rw [hy, hz] at h; cases h
    | some z =>
      rw [hy, hz] at h
      have := eC_bd g hz
      have := eC_bd k hy
      cases h; omega
theorem eDif_fin (f1 : ¬ InfC zs) (f2 : ¬ InfC ys) (t : Nat) : eDif zs p inc ys q jnc t = some (max 0 (atC zs p inc t - atC ys q jnc t)) := by
  unfold eDif; rw [eC_fin f1, eC_fin f2]; rfl
theorem eDif_g (k : Good ys q jnc) (i : InfC ys) {t : Nat} (ht : 399 ≤ t) : eDif zs p inc ys q jnc t = some 0 := by
  unfold eDif; rw [eC_400 k i ht, osub_r]
theorem eDif_f (g : Good zs p inc) (i : InfC zs) (f2 : ¬ InfC ys) {t : Nat} (ht : 399 ≤ t) : eDif zs p inc ys q jnc t = none := by
  unfold eDif; rw [eC_400 g i ht, eC_fin f2]; rfl
/-! ### The greatest so far -/

theorem rest_nn {t : Nat} {x : Int} (h : eRest zs p inc ys q jnc t = some x) : 0 ≤ x := by
  obtain ⟨s, _, e⟩ := maxO_some (fun _ _ => eDif_nn) h
  exact eDif_nn e
theorem rest_bd (g : Good zs p inc) (k : Good ys q jnc) {t : Nat} {x : Int} (h : eRest zs p inc ys q jnc t = some x) : 0 ≤ x ∧ x ≤ 1073741824 * ((t : Int) + 1) := by
  obtain ⟨s, hs, e⟩ := maxO_some (fun _ _ => eDif_nn) h
  have := eDif_bd g k e
  omega
theorem tame_mid {E : Nat → Option Int} (hu : ∀ t, E t = none → E (t + 1) = none) (hb : ∀ t x, t ≤ 400 → E t = some x → x ≤ 1125899906842624) : Tame E := by
  cases h : E 400 with
  | some y => exact tame_400 hu h (hb 400 y (Nat.le_refl _) h)
  | none =>
    refine ⟨hu, .inr fun t x hx => ?_⟩
    by_cases ht : t ≤ 400
    · have := hb t x ht hx; unfold infV; omega
    · have := stays hu h (t - 400)
      rw [show 400 + (t - 400) = t by omega, hx] at this
      cases this
theorem rest_tame (g : Good zs p inc) (k : Good ys q jnc) : Tame (eRest zs p inc ys q jnc) :=
  tame_mid (fun t h => maxO_up h) fun t x ht h => by have := rest_bd g k h; omega
theorem rest_mid (g : Good zs p inc) (k : Good ys q jnc) {t : Nat} (ht : t ≤ 1000) : Mid (encF (eRest zs p inc ys q jnc) t) := by
  cases h : eRest zs p inc ys q jnc t with
  | none => exact .inl (encF_none h)
  | some x => rw [encF_some h]; have := rest_bd g k h; exact .inr ⟨this.1, by omega⟩
theorem dif_mid (g : Good zs p inc) (k : Good ys q jnc) {t : Nat} (ht : t ≤ 1000) : Mid (encF (eDif zs p inc ys q jnc) t) := by
  cases h : eDif zs p inc ys q jnc t with
  | none => exact .inl (encF_none h)
  | some x => rw [encF_some h]; have := eDif_bd g k h; exact .inr ⟨this.1, by omega⟩

/-- What one period behind tick 400 tells. -/
def Sett (F : Nat → Int) (L : Nat) (G : Int) : Prop := (F (400 + L) - F 400 = G → Per F 400 L G) ∧ ∃ S, Per F S L G
theorem Sett.no {F : Nat → Int} {L : Nat} {G : Int} (h : Sett F L G) (hn : ¬ F (400 + L) - F 400 = G) : ¬ CanBe F := fun hc => by
  obtain ⟨S, hS⟩ := h.2
  have := hc.late hS 400 (Nat.le_refl _)
  omega
theorem sett_const {F : Nat → Int} {L : Nat} {v : Int} (h : ∀ t, 400 ≤ t → F t = v) : Sett F L 0 :=
  have hp : Per F 400 L 0 := fun t ht => by rw [h t ht, h (t + L) (by omega)]; omega
  ⟨fun _ => hp, 400, hp⟩

theorem rest_sett (g : Good zs p inc) (k : Good ys q jnc) {L : Nat} (hL : Mult p q L) : Sett (encF (eRest zs p inc ys q jnc)) L (restG zs p inc ys q jnc L) := by
  unfold restG
  by_cases f2 : InfC ys
  · rw [if_pos (.inr f2)]
    have hs : ∀ j, eRest zs p inc ys q jnc (400 + j) = eRest zs p inc ys q jnc 400 := fun j => by
      induction j with
      | zero => rfl
      | succ j ih =>
        show omax (eRest zs p inc ys q jnc (400 + j)) (eDif zs p inc ys q jnc (400 + j + 1)) = _
        rw [ih, eDif_g k f2 (by omega)]
        cases h : eRest zs p inc ys q jnc 400 with
        | none => rfl
        | some x => exact congrArg some (Int.max_eq_left (rest_nn h))
    exact sett_const (v := encF (eRest zs p inc ys q jnc) 400) fun t ht => by
      have := hs (t - 400)
      rw [show 400 + (t - 400) = t by omega] at this
      unfold encF; rw [this]
  · by_cases f1 : InfC zs
    · rw [if_pos (.inl f1)]
      exact sett_const (v := infV) fun t ht => encF_none (by
        have := maxO_ole (eDif zs p inc ys q jnc) (show t ≤ t from Nat.le_refl _)
        cases h : eRest zs p inc ys q jnc t with
        | none => rfl
        | some y => obtain ⟨x, hx, _⟩ := this y h; rw [eDif_f g f1 f2 (by omega)] at hx; cases hx)
    · rw [if_neg (fun h => h.elim f1 f2)]
      have he : encF (eRest zs p inc ys q jnc) = rmax (fun t => max 0 ((fun t => atC zs p inc t - atC ys q jnc t) t)) := funext fun t => encF_some (maxO_rmax (fun t => eDif_fin f1 f2 t) t)
      have hd : Per (fun t => atC zs p inc t - atC ys q jnc t) 400 L (((L / p : Nat) : Int) * inc - ((L / q : Nat) : Int) * jnc) := fun t ht => by
        have e1 := g.perL f1 hL.dp t ht
        have e2 := k.perL f2 hL.dq t ht
        show atC zs p inc (t + L) - atC ys q jnc (t + L) = atC zs p inc t - atC ys q jnc t + _
        omega
      rw [he]
      exact ⟨fun h => rmax_from hd hL.one (Nat.le_refl _) (eq_add_of_sub h), rmax_late hd hL.one⟩

/-! ### The least from a tick on -/

theorem above_nn {t : Nat} {x : Int} (h : eAbove zs p inc ys q jnc t = some x) : 0 ≤ x := minO_nn (fun _ _ => eDif_nn) h
theorem above_le {s t : Nat} (h : t ≤ s) : ole (eAbove zs p inc ys q jnc t) (eDif zs p inc ys q jnc s) := minO_le (fun _ _ => eDif_nn) h

/-- In the long run the first curve does not grow less than the second one, or one of them is infinite. -/
def Still (zs : List Int) (p : Nat) (inc : Int) (ys : List Int) (q : Nat) (jnc : Int) (L : Nat) : Prop := ¬ InfC zs → ¬ InfC ys → 0 ≤ ((L / p : Nat) : Int) * inc - ((L / q : Nat) : Int) * jnc

theorem dif_per (g : Good zs p inc) (k : Good ys q jnc) {L : Nat} (hL : Mult p q L) (f1 : ¬ InfC zs) (f2 : ¬ InfC ys) : Per (fun t => atC zs p inc t - atC ys q jnc t) 400 L (((L / p : Nat) : Int) * inc - ((L / q : Nat) : Int) * jnc) := fun t ht => by
  have e1 := g.perL f1 hL.dp t ht
  have e2 := k.perL f2 hL.dq t ht
  show atC zs p inc (t + L) - atC ys q jnc (t + L) = atC zs p inc t - atC ys q jnc t + _
  omega

/-- Behind a whole period from tick 400 on, no difference is less than all in it. -/
theorem dif_tail (g : Good zs p inc) (k : Good ys q jnc) {L : Nat} (hL : Mult p q L) (hs : Still zs p inc ys q jnc L) {M s : Nat} (hM : 400 ≤ M) (h : M ≤ s) : ∃ r, M ≤ r ∧ r < M + L ∧ ole (eDif zs p inc ys q jnc r) (eDif zs p inc ys q jnc s) := by
  have h1 := hL.one
  by_cases f2 : InfC ys
  · exact ⟨M, Nat.le_refl _, by omega, by rw [eDif_g k f2 (by omega), eDif_g k f2 (by omega)]; exact ole_refl _⟩
  · by_cases f1 : InfC zs
    · exact ⟨M, Nat.le_refl _, by omega, by rw [eDif_f g f1 f2 (show 399 ≤ s by omega)]; exact ole_none _⟩
    · obtain ⟨r, j, hr, rfl⟩ := tick_split hL.one h
      refine ⟨M + r, by omega, by omega, ?_⟩
      rw [eDif_fin f1 f2, eDif_fin f1 f2]
      have e := ((dif_per g k hL f1 f2).mono hM).to r j
      have h0 := hs f1 f2
      have h2 : 0 ≤ (j : Int) * (((L / p : Nat) : Int) * inc - ((L / q : Nat) : Int) * jnc) := Int.mul_nonneg (by omega) h0
      have e : atC zs p inc (M + r + j * L) - atC ys q jnc (M + r + j * L) = atC zs p inc (M + r) - atC ys q jnc (M + r) + _ := e
      exact ole_some (by omega)

/-- The least from t on, from a window that reaches a whole period behind tick 400 and t. -/
theorem above_win (g : Good zs p inc) (k : Good ys q jnc) {L : Nat} (hL : Mult p q L) (hs : Still zs p inc ys q jnc L) {t j : Nat} (h1 : 400 + L ≤ t + j + 1) (h2 : L ≤ j + 1) (h3 : t + j ≤ 100000) : encF (eAbove zs p inc ys q jnc) t = minK (encF (eDif zs p inc ys q jnc)) j t := by
  refine minK_low (fun s y s1 s2 hy => ?_) (fun s hlt => ?_) (fun _ _ => eDif_nn)
  · have := eDif_bd g k hy; unfold infV; omega
  · have h4 := hL.one
    obtain ⟨r, r1, r2, r3⟩ := dif_tail g k hL hs (M := t + j + 1 - L) (s := s) (by omega) (by omega)
    exact ⟨r, by omega, by omega, r3⟩

theorem above_bd (g : Good zs p inc) (k : Good ys q jnc) {t : Nat} {x : Int} (h : eAbove zs p inc ys q jnc t = some x) : 0 ≤ x ∧ (t ≤ 400 → x ≤ 1073741824 * 800) := by
  refine ⟨above_nn h, fun ht => ?_⟩
  cases h2 : eDif zs p inc ys q jnc 400 with
  | some y =>
    obtain ⟨z, hz, hle⟩ := above_le ht y h2
    rw [h] at hz; cases hz
    have := eDif_bd g k h2
    omega
  | none =>
    obtain ⟨s, hs, e⟩ := (minO_is (fun _ _ => eDif_nn (zs := zs) (p := p) (inc := inc) (ys := ys) (q := q) (jnc := jnc)) t).1
    change eDif zs p inc ys q jnc s = eAbove zs p inc ys q jnc t at e
    rw [h] at e
    have h3 := eDif_bd g k e
    have h5 : s ≤ 400 := by
      refine Nat.le_of_not_lt fun hlt => ?_
      obtain ⟨k1, y, k2⟩ := osub_none h2
      have hi := (eC_none.1 k1).1
      by_cases f2 : InfC ys
      · rw [eC_400 k f2 (by omega)] at k2; cases k2
      · rw [eDif_f g hi f2 (by omega)] at e; cases e
    omega
theorem above_tame (g : Good zs p inc) (k : Good ys q jnc) : Tame (eAbove zs p inc ys q jnc) :=
  tame_mid (fun t h => minO_up (fun _ _ => eDif_nn) h) fun t x ht h => by have := (above_bd g k h).2 ht; omega

theorem pos_per {d : Nat → Int} {S L : Nat} {δ : Int} (hd : Per d S L δ) (hδ : 0 ≤ δ) (h : δ = 0 ∨ ∀ t, S ≤ t → 0 ≤ d t) : Per (fun t => max 0 (d t)) S L δ := fun t ht => by
  have e := hd t ht
  show max 0 (d (t + L)) = max 0 (d t) + δ
  rcases h with h | h
  · omega
  · have := h t ht; omega

theorem low_per {D : Nat → Option Int} {x : Nat → Int} {S L : Nat} {δ : Int} (hx : ∀ t, D t = some (x t)) (hD : ∀ t y, D t = some y → 0 ≤ y) (hp : Per x S L δ) : Per (encF (minO D)) S L δ := fun t ht => by
  have hl := minO_is hD t
  cases hv : minO D t with
  | none =>
    obtain ⟨⟨s, _, e⟩, _⟩ := hl
    rw [hx, hv] at e; cases e
  | some v =>
    rw [hv] at hl
    have := minO_eq (low_shift (fun t _ => hx t) hp ht hl)
    rw [encF_some hv, encF_some this]

/-- What one period behind tick 400 tells of the least difference. -/
theorem above_sett (g : Good zs p inc) (k : Good ys q jnc) {L : Nat} (hL : Mult p q L) (hs : Still zs p inc ys q jnc L) : Sett (encF (eAbove zs p inc ys q jnc)) L (restG zs p inc ys q jnc L) := by
  unfold restG
  by_cases f2 : InfC ys
  · rw [if_pos (.inr f2)]
    exact sett_const (v := 0) fun t ht => encF_some (minO_eq ⟨⟨t, Nat.le_refl _, eDif_g k f2 (by omega)⟩, fun s h => by rw [eDif_g k f2 (by omega)]; exact ole_refl _⟩)
  · by_cases f1 : InfC zs
    · rw [if_pos (.inl f1)]
      exact sett_const (v := infV) fun t ht => encF_none (minO_eq ⟨⟨t, Nat.le_refl _, eDif_f g f1 f2 (by omega)⟩, fun s h => by rw [eDif_f g f1 f2 (by omega)]; exact ole_refl _⟩)
    · rw [if_neg (fun h => h.elim f1 f2)]
      have hd := dif_per g k hL f1 f2
      have h0 := hs f1 f2
      generalize ((L / p : Nat) : Int) * inc - ((L / q : Nat) : Int) * jnc = δ at hd h0
      rw [show max 0 δ = δ by omega]
      have hx : ∀ t, eDif zs p inc ys q jnc t = some ((fun t => max 0 ((fun t => atC zs p inc t - atC ys q jnc t) t)) t) := fun t => eDif_fin f1 f2 t
      have hn : ∀ t y, eDif zs p inc ys q jnc t = some y → 0 ≤ y := fun _ _ => eDif_nn
      constructor
      · intro hc
        refine low_per hx hn (pos_per hd h0 ?_)
        by_cases hz : δ = 0
        · exact .inl hz
        refine .inr fun t ht => ?_
        have hl := minO_is hn (400 + L)
        have hA : ∃ v, eAbove zs p inc ys q jnc (400 + L) = some v ∧ δ ≤ v := by
          cases hv : eAbove zs p inc ys q jnc (400 + L) with
          | none =>
            obtain ⟨⟨s, _, e⟩, _⟩ := hl
            rw [hx] at e
            change _ = eAbove zs p inc ys q jnc (400 + L) at e
            rw [hv] at e; cases e
          | some v =>
            refine ⟨v, rfl, ?_⟩
            rw [encF_some hv] at hc
            cases hu : eAbove zs p inc ys q jnc 400 with
            | none =>
              obtain ⟨⟨s, _, e⟩, _⟩ := minO_is hn 400
              rw [hx] at e
              change _ = eAbove zs p inc ys q jnc 400 at e
              rw [hu] at e; cases e
            | some u => rw [encF_some hu] at hc; have := above_nn hu; omega
        obtain ⟨v, hv, hle⟩ := hA
        have h2 := hl.2 (t + L) (by omega)
        change ole (eAbove zs p inc ys q jnc (400 + L)) _ at h2
        rw [hx, hv] at h2
        obtain ⟨y, hy, hle2⟩ := h2 _ rfl
        cases hy
        have e := hd t ht
        show 0 ≤ atC zs p inc t - atC ys q jnc t
        have e : atC zs p inc (t + L) - atC ys q jnc (t + L) = atC zs p inc t - atC ys q jnc t + δ := e
        have hle2 : v ≤ max 0 (atC zs p inc (t + L) - atC ys q jnc (t + L)) := hle2
        omega
      · by_cases hz : δ = 0
        · exact ⟨400, low_per hx hn (pos_per hd h0 (.inl hz))⟩
        · have hneg : Per (fun t => -(atC zs p inc t - atC ys q jnc t)) 400 L (-δ) := fun t ht => by
            have e : atC zs p inc (t + L) - atC ys q jnc (t + L) = atC zs p inc t - atC ys q jnc t + δ := hd t ht
            show -(atC zs p inc (t + L) - atC ys q jnc (t + L)) = -(atC zs p inc t - atC ys q jnc t) + -δ
            omega
          obtain ⟨T, hT, hf⟩ := falls hneg hL.one (by omega)
          exact ⟨T, low_per hx hn (pos_per (hd.mono hT) h0 (.inr fun t ht => by have : -(atC zs p inc t - atC ys q jnc t) ≤ 0 := hf t ht; show 0 ≤ atC zs p inc t - atC ys q jnc t; omega))⟩

/-- Where the first curve settles below the second one, nothing is above. -/
theorem above_settled (g : Good zs p inc) (k : Good ys q jnc) (h : ∃ T : Nat, ∀ u, T ≤ u → dC zs p inc ys q jnc u ≤ 0) : eAbove zs p inc ys q jnc = fun _ => some 0 := funext fun t => by
  obtain ⟨T, hT⟩ := h
  have hz : ∀ u, T ≤ u → eDif zs p inc ys q jnc u = some 0 := fun u hu => by
    have h1 := hT u hu
    by_cases hi : InfC ys ∧ atC ys q jnc u = infV
    · unfold eDif; rw [eC_none.2 hi, osub_r]
    · by_cases hj : InfC zs ∧ atC zs p inc u = infV
      · unfold dC at h1
        rw [if_pos hj, if_neg hi] at h1
        omega
      · unfold dC at h1
        rw [if_neg hj, if_neg hi] at h1
        unfold eDif eC
        rw [if_neg hj, if_neg hi]
        show some (max 0 _) = some 0
        congr 1; omega
  exact minO_eq ⟨⟨max t T, by omega, hz _ (by omega)⟩, fun s hs y hy => ⟨0, rfl, eDif_nn hy⟩⟩
/-- Where it does not, its long run decides. -/
theorem still_of (g : Good zs p inc) (k : Good ys q jnc) {L : Nat} (hL : Mult p q L) (h : ∀ T : Nat, ∃ u, T ≤ u ∧ 0 < dC zs p inc ys q jnc u) : ¬ InfC ys ∧ Still zs p inc ys q jnc L := by
  constructor
  · intro hi
    obtain ⟨u, hu, h1⟩ := h 400
    have h2 := eC_none.1 (eC_400 k hi (show 399 ≤ u by omega))
    unfold dC at h1
    rw [if_pos h2, if_pos h2] at h1
    split at h1 <;> omega
  · intro f1 f2
    refine Int.le_of_not_gt fun hlt => ?_
    obtain ⟨T, hT, hf⟩ := falls (dif_per g k hL f1 f2) hL.one hlt
    obtain ⟨u, hu, h1⟩ := h T
    rw [dC_fin f1 f2] at h1
    have : atC zs p inc u - atC ys q jnc u ≤ 0 := hf u hu
    omega
theorem settle_neg (g : Good zs p inc) (k : Good ys q jnc) {L : Nat} (hL : Mult p q L) (f1 : ¬ InfC zs) (f2 : ¬ InfC ys) (h : ((L / p : Nat) : Int) * inc - ((L / q : Nat) : Int) * jnc < 0) : ∃ T : Nat, ∀ u, T ≤ u → dC zs p inc ys q jnc u ≤ 0 := by
  obtain ⟨T, hT, hf⟩ := falls (dif_per g k hL f1 f2) hL.one h
  exact ⟨T, fun u hu => by rw [dC_fin f1 f2]; exact hf u hu⟩

theorem above_mid (g : Good zs p inc) (k : Good ys q jnc) {t : Nat} (ht : t ≤ 1000) : Mid (encF (eAbove zs p inc ys q jnc) t) := by
  cases h : eAbove zs p inc ys q jnc t with
  | none => exact .inl (encF_none h)
  | some x =>
    rw [encF_some h]
    refine .inr ⟨above_nn h, ?_⟩
    cases h2 : eDif zs p inc ys q jnc t with
    | some y =>
      obtain ⟨z, hz, hle⟩ := above_le (Nat.le_refl t) y h2
      rw [h] at hz; cases hz
      have := eDif_bd g k h2
      omega
    | none =>
      by_cases h4 : t ≤ 400
      · have := (above_bd g k h).2 h4; omega
      · obtain ⟨k1, y, k2⟩ := osub_none h2
        have hi := (eC_none.1 k1).1
        by_cases f2 : InfC ys
        · rw [eC_400 k f2 (by omega)] at k2; cases k2
        · have h6 : eAbove zs p inc ys q jnc t = none := minO_eq ⟨⟨t, Nat.le_refl _, h2⟩, fun s hs => by rw [eDif_f g hi f2 (by omega)]; exact ole_refl _⟩
          rw [h] at h6; cases h6
end

end Go.Proofs.Ytknimlpdpgpliaa

namespace Go.Proofs.Ytknimlpdpgpliaa

/-- A function that is given like a curve, all finite. -/
structure RawC (zs : List Int) (p : Nat) (inc : Int) : Prop where
  few : zs.length ≤ 8192
  p1 : 1 ≤ p
  p2 : p ≤ 1024
  p3 : p ≤ zs.length
  i0 : 0 ≤ inc
  i1 : inc ≤ 35184372088832
  val : ∀ i, i < zs.length → 0 ≤ zs.getD i 0 ∧ zs.getD i 0 ≤ 2251799813685248

theorem RawC.fin {zs : List Int} {p : Nat} {inc : Int} (h : RawC zs p inc) : ¬ zs.getD (zs.length - 1) 0 = infV := by
  have h1 := h.p1; have h3 := h.p3
  have := h.val (zs.length - 1) (by omega)
  unfold infV; omega
theorem RawC.small {zs : List Int} {p : Nat} {inc : Int} (h : RawC zs p inc) {i : Nat} (hi : i < zs.length) : 0 ≤ zs.getD i 0 ∧ zs.getD i 0 ≤ 2251799813685248 := h.val i hi
theorem RawC.per {zs : List Int} {p : Nat} {inc : Int} (h : RawC zs p inc) : Per (atC zs p inc) (zs.length - p) p inc := atC_per h.p1 h.p3 h.fin
theorem RawC.bd {zs : List Int} {p : Nat} {inc : Int} (h : RawC zs p inc) (t : Nat) : 0 ≤ atC zs p inc t ∧ atC zs p inc t ≤ 2251799813685248 + 35184372088832 * ((t : Int) + 1) := by
  have h0 := h.i0
  have h1 := h.i1
  induction t using Nat.strongRecOn with
  | ind t ih =>
    have hp := h.p3; have hp1 := h.p1
    by_cases hlt : t < zs.length
    · rw [atC_lt hlt]; have := h.small hlt; omega
    · have e := h.per (t - p) (by omega)
      have := ih (t - p) (by omega)
      rw [show t - p + p = t by omega] at e
      omega

theorem raw_tame {zs : List Int} {p : Nat} {inc : Int} {E : Nat → Option Int} (h : RawC zs p inc) (hE : ∀ t, E t = some (atC zs p inc t)) : Tame E :=
  ⟨fun t hx => (by rw [hE] at hx; cases hx), .inl ⟨400, Nat.le_refl _, _, hE 400, by have := h.bd 400; unfold infV; omega⟩⟩

theorem raw_form {zs : List Int} {p : Nat} {inc : Int} {E : Nat → Option Int} (h : RawC zs p inc) (hE : ∀ t, E t = some (atC zs p inc t)) {s r : Nat} {c : Int} (hn : NormOf (atC zs p inc) s r c) :
    (Good (firsts (atC zs p inc) (s + r)) r c → EForm (firsts (atC zs p inc) (s + r)) r c E) ∧ (¬ Good (firsts (atC zs p inc) (s + r)) r c → ¬ ECan E) := by
  have hF : encF E = atC zs p inc := funext fun t => by unfold encF; rw [hE]; rfl
  refine ⟨fun g => eform_of (raw_tame h hE) (by rw [hF]; exact form_of hn g), fun hno hc => no_form hn hno ?_⟩
  have := hc.can
  rwa [hF] at this

theorem raw_inf {zs : List Int} {i : Nat} {E : Nat → Option Int} (hi : i < zs.length) (hz : zs.getD i 0 = infV) (hj : ∀ j, j < i → ¬ zs.getD j 0 = infV) (hE : ∀ t, E t = if t < i then some (zs.getD t 0) else none) :
    (Good (zs.take (i + 1)) 1 0 → EForm (zs.take (i + 1)) 1 0 E) ∧ (¬ Good (zs.take (i + 1)) 1 0 → ¬ ECan E) := by
  have hl : (zs.take (i + 1)).length = i + 1 := by rw [List.length_take]; omega
  have hlast : InfC (zs.take (i + 1)) := by rw [infC_iff, hl, Nat.add_sub_cancel, getD_take (by omega)]; exact hz
  constructor
  · intro g
    have hN : NormC (zs.take (i + 1)) 1 0 (zs.take (i + 1)) 1 0 := .inr ⟨i, by omega, by rw [getD_take (by omega)]; exact hz, fun j h => by rw [getD_take (by omega)]; exact hj j h, by rw [List.take_take, Nat.min_self], rfl, rfl⟩
    have hf := hN.eform g
    rw [show eC (zs.take (i + 1)) 1 0 = E from funext fun t => ?_] at hf
    · exact hf
    rw [hE]
    by_cases ht : t < i
    · rw [if_pos ht]
      unfold eC
      have e : atC (zs.take (i + 1)) 1 0 t = zs.getD t 0 := by rw [atC_lt (by omega), getD_take (by omega)]
      rw [e, if_neg (fun hx => hj t ht hx.2)]
    · rw [if_neg ht]
      exact eC_late g hlast (by omega)
  · rintro hno ⟨xs, q, j, g, he⟩
    have h0 : eC xs q j i = none := by rw [he, hE, if_neg (Nat.lt_irrefl _)]
    obtain ⟨hx, ha⟩ := eC_none.1 h0
    have hlow : ∀ t, t < i → atC xs q j t = zs.getD t 0 := fun t ht => by
      have h1 : eC xs q j t = some (zs.getD t 0) := by rw [he, hE, if_pos ht]
      exact (eC_bd g h1).2.2
    have h1 := g.p1; have h3 := g.p3
    have hlen : i < xs.length := by
      refine Nat.lt_of_not_le fun hle => ?_
      have e := hlow (xs.length - 1) (by omega)
      rw [atC_inf hx (Nat.le_refl _) (by omega)] at e
      exact hj _ (by omega) e.symm
    have htk : xs.take (i + 1) = zs.take (i + 1) := list_ext_getD (by rw [hl, List.length_take]; omega) fun k hk => by
      rw [List.length_take] at hk
      rw [getD_take (by omega), getD_take (by omega)]
      by_cases hki : k < i
      · rw [← hlow k hki, atC_lt (by omega)]
      · rw [show k = i by omega, hz, ← ha, atC_lt hlen]
    have hN : NormC xs q j (zs.take (i + 1)) 1 0 := .inr ⟨i, hlen, by rw [← atC_lt (p := q) (inc := j) hlen]; exact ha, fun k hk => by rw [← atC_lt (p := q) (inc := j) (show k < xs.length by omega), hlow k hk]; exact hj k hk, htk.symm, rfl, rfl⟩
    exact hno (hN.good g)

/-- What is handed to Made: the values up to a tick from which on they grow in each period, or up to an infinite one. -/
def RawE (zs : List Int) (p : Nat) (inc : Int) (E : Nat → Option Int) : Prop :=
  (RawC zs p inc ∧ ∀ t, E t = some (atC zs p inc t)) ∨
  (zs.length ≤ 8192 ∧ ∃ i, i < zs.length ∧ zs.getD i 0 = infV ∧ (∀ j, j < i → ¬ zs.getD j 0 = infV) ∧ ∀ t, E t = if t < i then some (zs.getD t 0) else none)

theorem rawE_of {E : Nat → Option Int} {N L : Nat} {inc : Int} (hN : N ≤ 8192) (h1 : 1 ≤ L) (h2 : L ≤ 1024) (h3 : L ≤ N) (hi : 0 ≤ inc ∧ inc ≤ 35184372088832)
    (up : ∀ t, E t = none → E (t + 1) = none) (bd : ∀ t, t < N → ∀ x, E t = some x → 0 ≤ x ∧ x ≤ 2251799813685248)
    (fin : (∀ t, ¬ E t = none) → Per (encF E) (N - L) L inc) (inf : (∃ t, E t = none) → ∃ t, t < N ∧ E t = none) : RawE (firsts (encF E) N) L inc E := by
  have hl := firsts_length (encF E) N
  by_cases h : ∃ t, E t = none
  · obtain ⟨i, hz, hj⟩ := least_ex h
    obtain ⟨u, hu, hu0⟩ := inf h
    have hiN : i < N := by
      refine Nat.lt_of_not_le fun hle => ?_
      exact hj u (by omega) hu0
    refine .inr ⟨by omega, i, by omega, ?_, fun j hji hx => ?_, fun t => ?_⟩
    · rw [firsts_getD _ _ _ hiN]; unfold encF; rw [hz]; rfl
    · rw [firsts_getD _ _ _ (by omega)] at hx
      cases hE : E j with
      | none => exact hj j hji hE
      | some x => unfold encF at hx; rw [hE] at hx; have := bd j (by omega) x hE; change x = infV at hx; unfold infV at hx; omega
    · by_cases ht : t < i
      · rw [if_pos ht, firsts_getD _ _ _ (by omega)]
        cases hE : E t with
        | none => exact absurd hE (hj t ht)
        | some x => unfold encF; rw [hE]; rfl
      · rw [if_neg ht]
        have := stays up hz (t - i)
        rwa [show i + (t - i) = t by omega] at this
  · have hs : ∀ t, ¬ E t = none := fun t hx => h ⟨t, hx⟩
    have hv : ∀ t, E t = some (encF E t) := fun t => by
      cases hE : E t with
      | none => exact absurd hE (hs t)
      | some x => unfold encF; rw [hE]; rfl
    have hr : RawC (firsts (encF E) N) L inc := ⟨by omega, h1, h2, by omega, hi.1, hi.2, fun i hi => by
      rw [hl] at hi
      rw [firsts_getD _ _ _ hi]
      exact bd i hi _ (hv i)⟩
    refine .inl ⟨hr, fun t => ?_⟩
    rw [hv]
    congr 1
    have hp := hr.per
    rw [hl] at hp
    exact ((fin hs).ext hp h1 fun t ht => by rw [atC_lt (by omega), firsts_getD _ _ _ (by omega)]) t


section
variable {zs ys : List Int} {p q : Nat} {inc jnc : Int}

theorem inf_none (g : Good zs p inc) (h : ∃ t, eC zs p inc t = none) : eC zs p inc (zs.length - 1) = none := by
  obtain ⟨t, ht⟩ := h
  exact eC_late g (eC_none.1 ht).1 (Nat.le_refl _)

theorem fin_of (g : Good zs p inc) (h : ∀ t, ¬ eC zs p inc t = none) : ¬ InfC zs := fun hi => h _ (eC_late g hi (Nat.le_refl _))

end

end Go.Proofs.Ytknimlpdpgpliaa

namespace Go.Proofs.Ytknimlpdpgpliaa

section
variable {zs ys : List Int} {p q : Nat} {inc jnc : Int}

/-! ## Sums -/

theorem enc_sum (h1 : ¬ InfC zs) (h2 : ¬ InfC ys) (t : Nat) : encF (eSum zs p inc ys q jnc) t = atC zs p inc t + atC ys q jnc t := by
  refine encF_some ?_
  unfold eSum; rw [eC_fin h1, eC_fin h2]; rfl

theorem grow_bd (g : Good zs p inc) {L : Nat} (hL2 : L ≤ 120) : 0 ≤ inc * ((L / p : Nat) : Int) ∧ inc * ((L / p : Nat) : Int) ≤ 128849018880 := by
  have h0 := g.i0; have h1 := g.i1
  have h2 : L / p ≤ 120 := Nat.le_trans (Nat.div_le_self _ _) hL2
  generalize L / p = m at h2 ⊢
  have : inc * (m : Int) ≤ 1073741824 * 120 := Int.mul_le_mul h1 (by omega) (by omega) (by omega)
  exact ⟨Int.mul_nonneg h0 (by omega), by omega⟩

theorem Good.perM (g : Good zs p inc) (hf : ¬ InfC zs) {L m : Nat} (hL : L / p * p = L) (hm : zs.length - p ≤ m) : Per (atC zs p inc) m L (inc * ((L / p : Nat) : Int)) := by
  have h := (g.per hf).mul (L / p)
  rw [hL, Int.mul_comm] at h
  exact h.mono hm

theorem sum_raw (g : Good zs p inc) (k : Good ys q jnc) {L : Nat} (hL : Lcm p q L) (hL2 : L ≤ 120) {m : Nat} (h1 : zs.length ≤ m) (h2 : ys.length ≤ m) (hm : m ≤ 400) :
    RawE (firsts (encF (eSum zs p inc ys q jnc)) (m + L)) L (inc * ((L / p : Nat) : Int) + jnc * ((L / q : Nat) : Int)) (eSum zs p inc ys q jnc) := by
  have b1 := grow_bd g hL2
  have b2 := grow_bd k hL2
  have a1 := hL.one
  have g1 := g.p1; have g3 := g.p3; have k1 := k.p1; have k3 := k.p3
  have no1 : ∀ t, eC zs p inc t = none → eSum zs p inc ys q jnc t = none := fun t h => by unfold eSum; rw [h, oadd_none_l]
  have no2 : ∀ t, eC ys q jnc t = none → eSum zs p inc ys q jnc t = none := fun t h => by unfold eSum; rw [h, oadd_none_r]
  refine rawE_of (by omega) a1 (by omega) (by omega) (by omega) (sum_up g k) (fun t ht x hx => ?_) (fun hs => ?_) (fun h => ?_)
  · obtain ⟨y, z, hy, hz, rfl⟩ := both_some hx
    have c1 := eC_bd g hy
    have c2 := eC_bd k hz
    omega
  · have f1 : ¬ InfC zs := fin_of g fun t h => hs t (no1 t h)
    have f2 : ¬ InfC ys := fin_of k fun t h => hs t (no2 t h)
    intro t ht
    have e1 := g.perM f1 hL.dp (m := m) (by omega) t (by omega)
    have e2 := k.perM f2 hL.dq (m := m) (by omega) t (by omega)
    rw [enc_sum f1 f2, enc_sum f1 f2]
    omega
  · obtain ⟨t, ht⟩ := h
    cases hz : eC zs p inc t with
    | none => exact ⟨zs.length - 1, by omega, no1 _ (inf_none g ⟨t, hz⟩)⟩
    | some y =>
      cases hy : eC ys q jnc t with
      | none => exact ⟨ys.length - 1, by omega, no2 _ (inf_none k ⟨t, hy⟩)⟩
      | some z => unfold eSum at ht; rw [hz, hy] at ht; cases ht

/-! ## The lesser and the greater of two -/

/-- Where a curve is below one that grows less, the lesser and the greater one of them are no curves. -/
theorem over {a b : Nat → Int} {L : Nat} {ca cb : Int} (ha : Per a 400 L ca) (hb : Per b 400 L cb) (hL : 1 ≤ L) {u : Nat} (hu : 400 ≤ u) (hne : a u < b u) (hlt : cb < ca) : ¬ CanBe (minF a b) ∧ ¬ CanBe (maxF a b) := by
  have hd : Per (fun t => b t - a t) 400 L (cb - ca) := fun t ht => by have := ha t ht; have := hb t ht; show b (t + L) - a (t + L) = b t - a t + (cb - ca); omega
  obtain ⟨S, _, hf⟩ := falls hd hL (by omega)
  have hS : S ≤ S * L := Nat.le_mul_of_pos_right _ hL
  have e1 := ha.mul S u hu
  have e2 := hb.mul S u hu
  have e3 : b (u + S * L) - a (u + S * L) ≤ 0 := hf (u + S * L) (by omega)
  constructor
  · intro hc
    obtain ⟨S', hm⟩ := min_late ha hb hL
    have h := (hc.late hm).mul S u hu
    rw [show min ca cb = cb by omega] at h
    unfold minF at h
    omega
  · intro hc
    obtain ⟨S', hm⟩ := max_late ha hb hL
    have h := (hc.late hm).mul S u hu
    rw [show max ca cb = ca by omega] at h
    unfold maxF at h
    omega

/-! ## One curve -/

end

end Go.Proofs.Ytknimlpdpgpliaa
