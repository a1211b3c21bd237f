/- The mathematics of curves that are made from their values: whether there is such a curve, and which. An infinite value is none. Nothing here speaks of the program. By the verifier's side. -/
import Derived.Test.YtombgfpheiopgaaECurMCurNOrdM
namespace Go.Proofs.Ytombgfpheiopgaa

/-! ## The least period and start of a function -/

theorem normOf_ex {f : Nat → Int} {s P : Nat} {c : Int} (h : Per f s P c) (hP : 1 ≤ P) : ∃ s' p c', NormOf f s' p c' := by
  obtain ⟨p, ⟨h1, s1, c1, hp⟩, hl⟩ := least_ex (P := fun q => 1 ≤ q ∧ ∃ s c, Per f s q c) ⟨P, hP, s, c, h⟩
  obtain ⟨s2, h2, hs⟩ := least_ex (P := fun s => Per f s p c1) ⟨s1, hp⟩
  refine ⟨s2, p, c1, h2, h1, fun q hq hlt s' c' hk => hl q hlt ⟨hq, s', c', hk⟩, ?_⟩
  rcases Nat.eq_zero_or_pos s2 with h0 | hpos
  · exact .inl h0
  · refine .inr fun he => hs (s2 - 1) (by omega) fun t ht => ?_
    by_cases hlt : t = s2 - 1
    · rw [hlt]; exact he
    · exact h2 t (by omega)

theorem NormOf.start_le {f : Nat → Int} {s p s' P : Nat} {c I : Int} (h : NormOf f s p c) (k : Per f s' P I) (hP : 1 ≤ P) : s ≤ s' := by
  rcases h.start with h0 | hn
  · omega
  · exact Nat.le_of_not_lt fun hlt => hn ((k.any hP h.per) (s - 1) (by omega))

theorem NormOf.per_le {f : Nat → Int} {s p s' P : Nat} {c I : Int} (h : NormOf f s p c) (k : Per f s' P I) (hP : 1 ≤ P) : p ≤ P :=
  Nat.le_of_not_lt fun hlt => h.least P hP hlt _ _ k

theorem Good.perAny {zs : List Int} {p : Nat} {inc : Int} (g : Good zs p inc) : Per (atC zs p inc) (zs.length - p) p inc := by
  by_cases hi : zs.getD (zs.length - 1) 0 = infV
  · have h3 := g.p3
    obtain ⟨rfl, rfl⟩ := g.tailI hi
    intro t ht
    rw [atC_inf hi (by omega) (by omega), atC_inf hi (by omega) (by omega)]; omega
  · exact g.per hi

/-- A curve in normal form with the values F. -/
def Form (zs : List Int) (p : Nat) (inc : Int) (F : Nat → Int) : Prop :=
  Good zs p inc ∧ (∀ t, atC zs p inc t = F t) ∧ ∃ s, zs.length = s + p ∧ NormOf F s p inc

def CanBe (F : Nat → Int) : Prop := ∃ zs p inc, Good zs p inc ∧ ∀ t, atC zs p inc t = F t

theorem Form.unique {zs ys : List Int} {p q : Nat} {inc jnc : Int} {F : Nat → Int} (h : Form zs p inc F) (k : Form ys q jnc F) : zs = ys ∧ p = q ∧ inc = jnc := by
  obtain ⟨g, hv, s, hs, hn⟩ := h
  obtain ⟨g', kv, s', ks, kn⟩ := k
  obtain ⟨rfl, rfl, rfl⟩ := hn.unique kn
  refine ⟨list_ext_getD (by omega) fun i hi => ?_, rfl, rfl⟩
  rw [← atC_lt (p := p) (inc := inc) hi, ← atC_lt (zs := ys) (p := p) (inc := inc) (by omega), hv, kv]

theorem Good.form {ys : List Int} {q : Nat} {j : Int} (g : Good ys q j) {F : Nat → Int} (he : ∀ t, atC ys q j t = F t) {s p : Nat} {c : Int} (hn : NormOf F s p c) :
    s + p ≤ ys.length ∧ p ≤ q ∧ NormC ys q j (firsts F (s + p)) p c ∧ Form (firsts F (s + p)) p c F := by
  have hpe : Per F (ys.length - q) q j := fun t ht => by rw [← he, ← he]; exact g.perAny t ht
  have hs := hn.start_le hpe g.p1
  have hp := hn.per_le hpe g.p1
  have h3 := g.p3
  have h1 := g.p1
  have hp1 := hn.pos
  have htk : firsts F (s + p) = ys.take (s + p) := list_ext_getD (by rw [firsts_length, List.length_take]; omega) fun i hi => by
    rw [firsts_length] at hi
    rw [firsts_getD _ _ _ hi, getD_take hi, ← he, atC_lt (by omega)]
  have hN : NormC ys q j (firsts F (s + p)) p c := by
    rw [htk]
    by_cases hi : ys.getD (ys.length - 1) 0 = infV
    · obtain ⟨rfl, rfl⟩ := g.tailI hi
      obtain rfl : p = 1 := by omega
      have hc : c = 0 := (hn.per.mono hs).same hpe
      subst hc
      have hF : ∀ k, F (s + k) = F s := fun k => by
        induction k with
        | zero => rfl
        | succ k ih => have := hn.per (s + k) (by omega); rw [show s + (k + 1) = s + k + 1 by omega]; omega
      have hFs : F s = infV := by
        have := hF (ys.length - 1 - s)
        rw [show s + (ys.length - 1 - s) = ys.length - 1 by omega, ← he, atC_lt (by omega), hi] at this
        exact this.symm
      refine .inr ⟨s, by omega, by rw [← atC_lt (p := 1) (inc := 0) (show s < ys.length by omega), he]; exact hFs, fun k hk hx => ?_, rfl, rfl, rfl⟩
      rcases hn.start with h0 | hne
      · omega
      · have a1 := g.le (show k ≤ s - 1 by omega) (by omega)
        have a2 := g.val (s - 1) (by omega)
        have a3 := he (s - 1)
        rw [atC_lt (by omega)] at a3
        apply hne
        rw [show s - 1 + 1 = s by omega, hFs, ← a3]
        unfold infV at *; omega
    · exact .inl ⟨hi, s, by rw [show atC ys q j = F from funext he]; exact hn, rfl, by omega, hp⟩
  have hv := hN.values g
  exact ⟨by omega, hp, hN, hN.good g, fun t => (hv t).trans (he t), s, firsts_length _ _, hn⟩

/-- The list that the search makes is the curve, if it is valid. -/
theorem form_of {F : Nat → Int} {s p : Nat} {c : Int} (hn : NormOf F s p c) (g : Good (firsts F (s + p)) p c) : Form (firsts F (s + p)) p c F := by
  have hl := firsts_length F (s + p)
  have hp1 := hn.pos
  refine ⟨g, ?_, s, hl, hn⟩
  by_cases hi : (firsts F (s + p)).getD ((firsts F (s + p)).length - 1) 0 = infV
  · obtain ⟨rfl, rfl⟩ := g.tailI hi
    have hF : ∀ k, F (s + k) = F s := fun k => by
      induction k with
      | zero => rfl
      | succ k ih => have := hn.per (s + k) (by omega); rw [show s + (k + 1) = s + k + 1 by omega]; omega
    have hFs : F s = infV := by rw [hl, show s + 1 - 1 = s by omega, firsts_getD _ _ _ (by omega)] at hi; exact hi
    intro t
    by_cases ht : t < s + 1
    · rw [atC_lt (by omega), firsts_getD _ _ _ ht]
    · rw [atC_inf hi (by omega) (by omega), show t = s + (t - s) by omega, hF, hFs]
  · have hper := atC_per (inc := c) hn.pos (show p ≤ (firsts F (s + p)).length by omega) hi
    rw [hl, show s + p - p = s by omega] at hper
    exact hper.ext hn.per hn.pos fun t ht => by rw [atC_lt (by omega), firsts_getD _ _ _ ht]

theorem no_form {F : Nat → Int} {s p : Nat} {c : Int} (hn : NormOf F s p c) (h : ¬ Good (firsts F (s + p)) p c) : ¬ CanBe F := by
  rintro ⟨ys, q, j, g, he⟩
  exact h (g.form he hn).2.2.2.1

theorem no_form_long {F : Nat → Int} {s p : Nat} {c : Int} (hn : NormOf F s p c) (h : 400 < s + p) : ¬ CanBe F :=
  no_form hn fun g => by have := g.few; rw [firsts_length] at this; omega

theorem CanBe.form {F : Nat → Int} (h : CanBe F) : ∃ zs p inc, Form zs p inc F := by
  obtain ⟨ys, q, j, g, he⟩ := h
  have hpe : Per F (ys.length - q) q j := fun t ht => by rw [← he, ← he]; exact g.perAny t ht
  obtain ⟨s, p, c, hn⟩ := normOf_ex hpe g.p1
  exact ⟨_, _, _, (g.form he hn).2.2.2⟩

theorem CanBe.per {F : Nat → Int} (h : CanBe F) : ∃ s p c, s ≤ 399 ∧ 1 ≤ p ∧ Per F s p c := by
  obtain ⟨ys, q, j, g, he⟩ := h
  have h1 := g.few; have h2 := g.p1; have h3 := g.p3
  exact ⟨ys.length - q, q, j, by omega, h2, fun t ht => by rw [← he, ← he]; exact g.perAny t ht⟩

/-! ## Values that may be infinite -/

def enc : Option Int → Int
  | none => infV
  | some x => x

open Classical in
noncomputable def eC (zs : List Int) (p : Nat) (inc : Int) (t : Nat) : Option Int :=
  if InfC zs ∧ atC zs p inc t = infV then none else some (atC zs p inc t)

theorem enc_eC (zs : List Int) (p : Nat) (inc : Int) (t : Nat) : enc (eC zs p inc t) = atC zs p inc t := by
  unfold eC
  split
  · rename_i h; exact h.2.symm
  · rfl

theorem eC_fin {zs : List Int} (h : ¬ InfC zs) (p : Nat) (inc : Int) (t : Nat) : eC zs p inc t = some (atC zs p inc t) := by
  unfold eC; rw [if_neg (fun hx => h hx.1)]

theorem eC_none {zs : List Int} {p : Nat} {inc : Int} {t : Nat} : eC zs p inc t = none ↔ InfC zs ∧ atC zs p inc t = infV := by
  unfold eC
  split
  · rename_i h; exact ⟨fun _ => h, fun _ => rfl⟩
  · rename_i h; exact ⟨(fun hx => by cases hx), fun hx => absurd hx h⟩

/-- What the values of a curve that is to be made keep to: what is infinite stays so, and is told from what is finite. -/
def Tame (E : Nat → Option Int) : Prop :=
  (∀ t, E t = none → E (t + 1) = none) ∧ ((∃ u, 400 ≤ u ∧ ∃ y, E u = some y ∧ ¬ y = infV) ∨ (∀ t x, E t = some x → ¬ x = infV))

/-- A curve in normal form with these values. -/
def EForm (zs : List Int) (p : Nat) (inc : Int) (E : Nat → Option Int) : Prop :=
  Good zs p inc ∧ (∀ t, eC zs p inc t = E t) ∧ ∃ s, zs.length = s + p ∧ NormOf (atC zs p inc) s p inc

def ECan (E : Nat → Option Int) : Prop := ∃ zs p inc, Good zs p inc ∧ ∀ t, eC zs p inc t = E t

def encF (E : Nat → Option Int) (t : Nat) : Int := enc (E t)

theorem stays {E : Nat → Option Int} (h : ∀ t, E t = none → E (t + 1) = none) {t : Nat} (h0 : E t = none) (k : Nat) : E (t + k) = none := by
  induction k with
  | zero => exact h0
  | succ k ih => exact h (t + k) ih

theorem eform_of {E : Nat → Option Int} (hT : Tame E) {zs : List Int} {p : Nat} {inc : Int} (h : Form zs p inc (encF E)) : EForm zs p inc E := by
  obtain ⟨g, hv, s, hs, hn⟩ := h
  refine ⟨g, fun t => ?_, s, hs, by rw [show atC zs p inc = encF E from funext hv]; exact hn⟩
  have hf := g.few; have h1 := g.p1; have h3 := g.p3
  cases hE : E t with
  | none =>
    have ha : atC zs p inc t = infV := by rw [hv]; unfold encF; rw [hE]; rfl
    refine eC_none.2 ⟨Classical.byContradiction fun hi => ?_, ha⟩
    have hall : ∀ k, atC zs p inc (t + k) = infV := fun k => by rw [hv]; unfold encF; rw [stays hT.1 hE]; rfl
    have hper := g.per hi
    have e1 := hper (t + zs.length) (by omega)
    rw [hall, show t + zs.length + p = t + (zs.length + p) by omega, hall] at e1
    have hi0 : inc = 0 := by omega
    have e2 := (hper.mul t) (zs.length - p) (Nat.le_refl _)
    rw [hi0, Int.mul_zero, Int.add_zero] at e2
    have hle : t ≤ t * p := Nat.le_mul_of_pos_right _ (by omega)
    rw [hi0] at hall
    rw [show zs.length - p + t * p = t + (zs.length - p + t * p - t) by omega, hall, atC_lt (by omega)] at e2
    have := g.small hi (show zs.length - p < zs.length by omega)
    unfold infV at e2; omega
  | some x =>
    have ha : atC zs p inc t = x := by rw [hv]; unfold encF; rw [hE]; rfl
    unfold eC
    rw [if_neg, ha]
    rintro ⟨hi, hx⟩
    rcases hT.2 with ⟨u, hu, y, hy, hne⟩ | h
    · apply hne
      have e : atC zs p inc u = y := by rw [hv]; unfold encF; rw [hy]; rfl
      rw [← e]; exact atC_inf hi (by omega) (by omega)
    · exact h t x hE (by rw [← ha]; exact hx)

theorem ECan.can {E : Nat → Option Int} (h : ECan E) : CanBe (encF E) := by
  obtain ⟨zs, p, inc, g, he⟩ := h
  exact ⟨zs, p, inc, g, fun t => by rw [← enc_eC, he]; rfl⟩

theorem EForm.form {zs : List Int} {p : Nat} {inc : Int} {E : Nat → Option Int} (h : EForm zs p inc E) : Form zs p inc (encF E) := by
  obtain ⟨g, he, s, hs, hn⟩ := h
  have hv : ∀ t, atC zs p inc t = encF E t := fun t => by rw [← enc_eC, he]; rfl
  exact ⟨g, hv, s, hs, by rw [← show atC zs p inc = encF E from funext hv]; exact hn⟩

theorem EForm.unique {zs ys : List Int} {p q : Nat} {inc jnc : Int} {E : Nat → Option Int} (h : EForm zs p inc E) (k : EForm ys q jnc E) : zs = ys ∧ p = q ∧ inc = jnc :=
  h.form.unique k.form

theorem EForm.can {zs : List Int} {p : Nat} {inc : Int} {E : Nat → Option Int} (h : EForm zs p inc E) : ECan E := ⟨zs, p, inc, h.1, h.2.1⟩

/-- The normal form of a valid curve. -/
theorem NormC.eform {zs zs' : List Int} {p p' : Nat} {inc inc' : Int} (g : Good zs p inc) (h : NormC zs p inc zs' p' inc') : EForm zs' p' inc' (eC zs p inc) := by
  have hv := h.values g
  have g' := h.good g
  have hfin := h.fin_iff g
  have he : ∀ t, eC zs' p' inc' t = eC zs p inc t := fun t => by
    have e : InfC zs' ↔ InfC zs := hfin
    unfold eC
    rw [hv t]
    by_cases hi : InfC zs
    · have hi' := e.2 hi
      by_cases ha : atC zs p inc t = infV
      · rw [if_pos ⟨hi', ha⟩, if_pos ⟨hi, ha⟩]
      · rw [if_neg (fun hx => ha hx.2), if_neg (fun hx => ha hx.2)]
    · rw [if_neg (fun hx => hi (e.1 hx.1)), if_neg (fun hx => hi hx.1)]
  refine ⟨g', he, ?_⟩
  rw [show atC zs' p' inc' = atC zs p inc from funext hv]
  obtain ⟨s, p2, c2, hn⟩ := normOf_ex g.perAny g.p1
  obtain ⟨_, _, hN, hF⟩ := g.form (fun _ => rfl) hn
  obtain ⟨rfl, rfl, rfl⟩ := h.canon g g hN (fun _ => rfl)
  exact ⟨s, firsts_length _ _, hn⟩

/-! ## Curves from their values -/

theorem good_fin {F : Nat → Int} {s p : Nat} {c : Int} (hp : Per F s p c) (h1 : 1 ≤ p) (h2 : p ≤ 120) (h3 : s + p ≤ 400) (h0 : 0 ≤ F 0) (hm : ∀ t, t < s + p → F t ≤ F (t + 1)) (hb : F (s + p - 1) ≤ 1073741824) (hc : c ≤ 1073741824) :
    Good (firsts F (s + p)) p c ∧ (¬ InfC (firsts F (s + p))) ∧ ∀ t, atC (firsts F (s + p)) p c t = F t := by
  have hl := firsts_length F (s + p)
  have up : ∀ k i, i + k ≤ s + p → F i ≤ F (i + k) := fun k => by
    induction k with
    | zero => intro i _; exact Int.le_refl _
    | succ k ih => intro i hi; have a := ih i (by omega); have b := hm (i + k) (by omega); rw [show i + (k + 1) = i + k + 1 by omega]; omega
  have lo : ∀ i, i ≤ s + p → 0 ≤ F i := fun i hi => by have := up i 0 (by omega); rw [Nat.zero_add] at this; omega
  have hi' : ∀ i, i < s + p → F i ≤ 1073741824 := fun i hi => by have := up (s + p - 1 - i) i (by omega); rw [show i + (s + p - 1 - i) = s + p - 1 by omega] at this; omega
  have hlast : ¬ InfC (firsts F (s + p)) := by
    rw [infC_iff, hl, firsts_getD _ _ _ (by omega)]; unfold infV; omega
  have hc0 : F (s + p) = F s + c := hp s (Nat.le_refl _)
  have hup := up p s (by omega)
  have g : Good (firsts F (s + p)) p c := by
    refine ⟨by omega, h1, h2, by omega, by omega, hc, fun i hi => ?_, fun i hi => ?_, fun hx => absurd hx hlast, fun _ => ?_⟩
    · rw [hl] at hi; rw [firsts_getD _ _ _ hi]; exact .inl ⟨lo i (by omega), hi' i hi⟩
    · rw [hl] at hi; rw [firsts_getD _ _ _ (by omega), firsts_getD _ _ _ hi]; exact hm i (by omega)
    · rw [hl, firsts_getD _ _ _ (by omega), firsts_getD _ _ _ (by omega), show s + p - p = s by omega]
      have := hm (s + p - 1) (by omega)
      rw [show s + p - 1 + 1 = s + p by omega] at this
      omega
  refine ⟨g, hlast, ?_⟩
  have hper := g.per hlast
  rw [hl, show s + p - p = s by omega] at hper
  exact hper.ext hp h1 fun t ht => by rw [atC_lt (by omega), firsts_getD _ _ _ ht]

/-- There is a curve with these values, all finite. -/
theorem can_fin {E : Nat → Option Int} {F : Nat → Int} (hE : ∀ t, E t = some (F t)) {s p : Nat} {c : Int} (hp : Per F s p c) (h1 : 1 ≤ p) (h2 : p ≤ 120) (h3 : s + p ≤ 400) (h0 : 0 ≤ F 0) (hm : ∀ t, t < s + p → F t ≤ F (t + 1)) (hb : F (s + p - 1) ≤ 1073741824) (hc : c ≤ 1073741824) : ECan E := by
  obtain ⟨g, hf, hv⟩ := good_fin hp h1 h2 h3 h0 hm hb hc
  exact ⟨_, _, _, g, fun t => by rw [eC_fin hf, hv, hE]⟩

/-- There is a curve with these values, which are infinite from i on. -/
theorem can_inf {E : Nat → Option Int} {F : Nat → Int} {i : Nat} (hi : i ≤ 399) (hE : ∀ t, t < i → E t = some (F t)) (hN : ∀ t, i ≤ t → E t = none) (hb : ∀ t, t < i → 0 ≤ F t ∧ F t ≤ 1073741824) (hm : ∀ t, t + 1 < i → F t ≤ F (t + 1)) : ECan E := by
  have hl : (firsts F i ++ [infV]).length = i + 1 := by simp [firsts_length]
  have hlt : ∀ j, j < i → (firsts F i ++ [infV]).getD j 0 = F j := fun j hj => by
    rw [getD_append_lt (by rw [firsts_length]; exact hj), firsts_getD _ _ _ hj]
  have hat : (firsts F i ++ [infV]).getD i 0 = infV := by
    have := getD_append_eq (zs := firsts F i) (v := infV)
    rwa [firsts_length] at this
  have hlast : InfC (firsts F i ++ [infV]) := by rw [infC_iff, hl, Nat.add_sub_cancel, hat]
  have g : Good (firsts F i ++ [infV]) 1 0 := by
    refine ⟨by omega, by omega, by omega, by omega, by omega, by omega, fun j hj => ?_, fun j hj => ?_, fun _ => ⟨rfl, rfl⟩, fun hx => absurd hlast hx⟩
    · by_cases he : j = i
      · subst he; exact .inr hat
      · rw [hlt j (by omega)]; exact .inl (hb j (by omega))
    · by_cases he : j + 1 = i
      · rw [he, hat, hlt j (by omega)]; have := hb j (by omega); unfold infV; omega
      · rw [hlt j (by omega), hlt (j + 1) (by omega)]; exact hm j (by omega)
  refine ⟨_, _, _, g, fun t => ?_⟩
  by_cases ht : t < i
  · rw [hE t ht]
    unfold eC
    rw [if_neg, atC_lt (by omega), hlt t ht]
    rintro ⟨_, hx⟩
    rw [atC_lt (by omega), hlt t ht] at hx
    have := hb t ht
    unfold infV at hx; omega
  · rw [hN t (by omega)]
    exact eC_none.2 ⟨hlast, atC_inf hlast (by omega) (by omega)⟩

/-! ## The greater and the lesser of two functions -/

def maxF (a b : Nat → Int) (t : Nat) : Int := max (a t) (b t)
def minF (a b : Nat → Int) (t : Nat) : Int := min (a t) (b t)

theorem bound_ex (d : Nat → Int) (S : Nat) : ∀ L, ∃ K : Nat, ∀ r, r < L → d (S + r) ≤ K
  | 0 => ⟨0, fun r hr => absurd hr (Nat.not_lt_zero _)⟩
  | L + 1 => by
    obtain ⟨K, hK⟩ := bound_ex d S L
    refine ⟨K + (d (S + L)).toNat, fun r hr => ?_⟩
    by_cases he : r = L
    · subst he; omega
    · have := hK r (by omega); omega

/-- What falls from period to period is below 0 in the end. -/
theorem falls {d : Nat → Int} {S L : Nat} {c : Int} (h : Per d S L c) (hL : 1 ≤ L) (hc : c < 0) : ∃ S', S ≤ S' ∧ ∀ t, S' ≤ t → d t ≤ 0 := by
  obtain ⟨K, hK⟩ := bound_ex d S L
  refine ⟨S + (K + 1) * L, by omega, fun t ht => ?_⟩
  obtain ⟨r, j, hr, rfl⟩ := tick_split (S := S) hL (show S ≤ t by omega)
  have hj : K ≤ j := by
    refine Nat.le_of_not_lt fun hlt => ?_
    have h1 : j * L + L ≤ K * L := by
      have := Nat.mul_le_mul_right L (show j + 1 ≤ K by omega)
      rwa [Nat.succ_mul] at this
    rw [Nat.succ_mul] at ht
    omega
  rw [h.to r j]
  have h1 := hK r hr
  have h2 : (j : Int) * c ≤ (j : Int) * (-1) := Int.mul_le_mul_of_nonneg_left (by omega) (by omega)
  omega

theorem max_late {a b : Nat → Int} {S L : Nat} {ca cb : Int} (ha : Per a S L ca) (hb : Per b S L cb) (hL : 1 ≤ L) : ∃ S', Per (maxF a b) S' L (max ca cb) := by
  have hd : Per (fun t => a t - b t) S L (ca - cb) := fun t ht => by have := ha t ht; have := hb t ht; show a (t + L) - b (t + L) = a t - b t + (ca - cb); omega
  have hd' : Per (fun t => b t - a t) S L (cb - ca) := fun t ht => by have := ha t ht; have := hb t ht; show b (t + L) - a (t + L) = b t - a t + (cb - ca); omega
  rcases Int.lt_trichotomy ca cb with h | h | h
  · obtain ⟨S', hS, hf⟩ := falls hd hL (by omega)
    refine ⟨S', fun t ht => ?_⟩
    have e1 : a t - b t ≤ 0 := hf t ht
    have e2 : a (t + L) - b (t + L) ≤ 0 := hf (t + L) (by omega)
    have e3 := hb t (by omega)
    unfold maxF; omega
  · refine ⟨S, fun t ht => ?_⟩
    have e1 := ha t ht
    have e2 := hb t ht
    unfold maxF; omega
  · obtain ⟨S', hS, hf⟩ := falls hd' hL (by omega)
    refine ⟨S', fun t ht => ?_⟩
    have e1 : b t - a t ≤ 0 := hf t ht
    have e2 : b (t + L) - a (t + L) ≤ 0 := hf (t + L) (by omega)
    have e3 := ha t (by omega)
    unfold maxF; omega

theorem min_late {a b : Nat → Int} {S L : Nat} {ca cb : Int} (ha : Per a S L ca) (hb : Per b S L cb) (hL : 1 ≤ L) : ∃ S', Per (minF a b) S' L (min ca cb) := by
  have hd : Per (fun t => a t - b t) S L (ca - cb) := fun t ht => by have := ha t ht; have := hb t ht; show a (t + L) - b (t + L) = a t - b t + (ca - cb); omega
  have hd' : Per (fun t => b t - a t) S L (cb - ca) := fun t ht => by have := ha t ht; have := hb t ht; show b (t + L) - a (t + L) = b t - a t + (cb - ca); omega
  rcases Int.lt_trichotomy ca cb with h | h | h
  · obtain ⟨S', hS, hf⟩ := falls hd hL (by omega)
    refine ⟨S', fun t ht => ?_⟩
    have e1 : a t - b t ≤ 0 := hf t ht
    have e2 : a (t + L) - b (t + L) ≤ 0 := hf (t + L) (by omega)
    have e3 := ha t (by omega)
    unfold minF; omega
  · refine ⟨S, fun t ht => ?_⟩
    have e1 := ha t ht
    have e2 := hb t ht
    unfold minF; omega
  · obtain ⟨S', hS, hf⟩ := falls hd' hL (by omega)
    refine ⟨S', fun t ht => ?_⟩
    have e1 : b t - a t ≤ 0 := hf t ht
    have e2 : b (t + L) - a (t + L) ≤ 0 := hf (t + L) (by omega)
    have e3 := hb t (by omega)
    unfold minF; omega

/-- If a function grows by G in the end, and is a curve's, then it does so in each period behind tick 400. -/
theorem CanBe.late {F : Nat → Int} (h : CanBe F) {S L : Nat} {G : Int} (k : Per F S L G) : Per F 400 L G := by
  obtain ⟨s, p, c, hs, hp, hk⟩ := h.per
  exact (hk.any hp k).mono (by omega)

end Go.Proofs.Ytombgfpheiopgaa

namespace Go.Proofs.Ytombgfpheiopgaa

def oadd : Option Int → Option Int → Option Int
  | some x, some y => some (x + y)
  | _, _ => none
def omin : Option Int → Option Int → Option Int
  | none, y => y
  | some x, none => some x
  | some x, some y => some (min x y)
def omax : Option Int → Option Int → Option Int
  | some x, some y => some (max x y)
  | _, _ => none
theorem oadd_none_l (y : Option Int) : oadd none y = none := by cases y <;> rfl
theorem oadd_none_r (x : Option Int) : oadd x none = none := by cases x <;> rfl
theorem omax_none_l (y : Option Int) : omax none y = none := by cases y <;> rfl
theorem omax_none_r (x : Option Int) : omax x none = none := by cases x <;> rfl
/-- A number that is infinite or small. -/
def Mid (x : Int) : Prop := x = infV ∨ (0 ≤ x ∧ x ≤ 1125899906842624)

section
variable {zs ys : List Int} {p q : Nat} {inc jnc : Int}

/-! ### Sum -/

noncomputable def eMin (zs : List Int) (p : Nat) (inc : Int) (ys : List Int) (q : Nat) (jnc : Int) (t : Nat) : Option Int := omin (eC zs p inc t) (eC ys q jnc t)
/-- Of an infinite sum or maximum the finite values are small. -/
theorem both_some {a b : Option Int} {x : Int} (h : oadd a b = some x) : ∃ y z, a = some y ∧ b = some z ∧ x = y + z := by
  cases a with
  | none => rw [oadd_none_l] at h; cases h
  | some y =>
    cases b with
    | none => cases h
    | some z => exact ⟨y, z, rfl, rfl, by cases h; rfl⟩
/-! ### One curve -/

end

end Go.Proofs.Ytombgfpheiopgaa

namespace Go.Proofs.Ytombgfpheiopgaa

end Go.Proofs.Ytombgfpheiopgaa

namespace Go.Proofs.Ytombgfpheiopgaa

theorem can_of_inf {E : Nat → Option Int} (hu : ∀ t, E t = none → E (t + 1) = none) (hex : E 399 = none) (hb : ∀ t x, t ≤ 399 → E t = some x → 0 ≤ x ∧ x ≤ 1073741824) (hm : ∀ t x y, E t = some x → E (t + 1) = some y → x ≤ y) : ECan E := by
  obtain ⟨i, hi, hl⟩ := least_ex (P := fun t => E t = none) ⟨399, hex⟩
  have hi9 : i ≤ 399 := Nat.le_of_not_lt fun h => hl 399 h hex
  have hs : ∀ t, t < i → E t = some (encF E t) := fun t ht => by
    unfold encF
    cases h : E t with
    | none => exact absurd h (hl t ht)
    | some x => rfl
  refine can_inf (F := encF E) hi9 hs (fun t ht => ?_) (fun t ht => hb t _ (by omega) (hs t ht)) (fun t ht => hm t _ _ (hs t (by omega)) (hs (t + 1) ht))
  rw [show t = i + (t - i) by omega]
  exact stays hu hi _

section
variable {zs ys : List Int} {p q most : Nat} {inc jnc : Int}

end

end Go.Proofs.Ytombgfpheiopgaa

namespace Go.Proofs.Ytombgfpheiopgaa

section
variable {zs ys : List Int} {p q most : Nat} {inc jnc k : Int}

end

end Go.Proofs.Ytombgfpheiopgaa

namespace Go.Proofs.Ytombgfpheiopgaa

/-- At most, where none is the greatest. -/
def ole (a b : Option Int) : Prop := ∀ y, b = some y → ∃ x, a = some x ∧ x ≤ y

end Go.Proofs.Ytombgfpheiopgaa

namespace Go.Proofs.Ytombgfpheiopgaa

section
variable {zs : List Int} {p : Nat} {inc : Int}

/-- Short and small. -/
structure Mild (zs : List Int) (p : Nat) (inc : Int) : Prop where
  good : Good zs p inc
  len : zs.length ≤ 100
  bd : ∀ t x, t ≤ 400 → eC zs p inc t = some x → x ≤ 100000

theorem Mild.at (m : Mild zs p inc) (hf : ¬ InfC zs) {t : Nat} (ht : t ≤ 400) : 0 ≤ atC zs p inc t ∧ atC zs p inc t ≤ 100000 := ⟨(m.good.bd hf t).1, m.bd t _ ht (eC_fin hf p inc t)⟩

end

end Go.Proofs.Ytombgfpheiopgaa

namespace Go.Proofs.Ytombgfpheiopgaa

/-- From tick 16 on periodic by 24 ticks (or infinite), not decreasing, small up to tick 400. -/
structure Nice (K : Int) (E : Nat → Option Int) : Prop where
  up : ∀ t, E t = none → E (t + 1) = none
  mono : ∀ t x y, E t = some x → E (t + 1) = some y → x ≤ y
  bd : ∀ t x, t ≤ 400 → E t = some x → 0 ≤ x ∧ x ≤ K
  tail : (∀ t, 16 ≤ t → E t = none) ∨ ((∀ t, E t = some (encF E t)) ∧ ∃ c, Per (encF E) 16 24 c)

theorem encF_some {E : Nat → Option Int} {t : Nat} {x : Int} (h : E t = some x) : encF E t = x := by unfold encF; rw [h]; rfl
theorem encF_none {E : Nat → Option Int} {t : Nat} (h : E t = none) : encF E t = infV := by unfold encF; rw [h]; rfl

theorem per_none {E : Nat → Option Int} (h : ∀ t, 16 ≤ t → E t = none) : Per (encF E) 16 24 0 := fun t ht => by rw [encF_none (h t ht), encF_none (h (t + 24) (by omega))]; omega

theorem Nice.can {K : Int} {E : Nat → Option Int} (h : Nice K E) (hK : K ≤ 1000000000) : ECan E := by
  rcases h.tail with hn | ⟨hs, c, hp⟩
  · exact can_of_inf h.up (hn 399 (by omega)) (fun t x ht hx => by have := h.bd t x (by omega) hx; omega) h.mono
  · have b : ∀ t, t ≤ 400 → 0 ≤ encF E t ∧ encF E t ≤ K := fun t ht => h.bd t _ ht (hs t)
    refine can_fin hs hp (by omega) (by omega) (by omega) (b 0 (by omega)).1 (fun t _ => h.mono t _ _ (hs t) (hs (t + 1))) ?_ ?_
    · have := b (16 + 24 - 1) (by omega); omega
    · have e := hp 16 (by omega)
      have := b 16 (by omega)
      have := b (16 + 24) (by omega)
      omega

theorem Nice.per {K : Int} {E : Nat → Option Int} (h : Nice K E) : ∃ c, Per (encF E) 16 24 c := by
  rcases h.tail with hn | ⟨_, h⟩
  · exact ⟨0, fun t ht => by rw [encF_none (hn t ht), encF_none (hn (t + 24) (by omega))]; omega⟩
  · exact h

theorem Nice.sum {K K' : Int} {E E' : Nat → Option Int} (h : Nice K E) (k : Nice K' E') : Nice (K + K') (fun t => oadd (E t) (E' t)) := by
  refine ⟨fun t hx => ?_, fun t x y hx hy => ?_, fun t x ht hx => ?_, ?_⟩
  · show oadd (E (t + 1)) (E' (t + 1)) = none
    replace hx : oadd (E t) (E' t) = none := hx
    cases h1 : E t with
    | none => rw [h.up t h1, oadd_none_l]
    | some u =>
      cases h2 : E' t with
      | none => rw [k.up t h2, oadd_none_r]
      | some v => rw [h1, h2] at hx; cases hx
  · obtain ⟨x1, x2, h1, h2, rfl⟩ := both_some hx
    obtain ⟨y1, y2, k1, k2, rfl⟩ := both_some hy
    have := h.mono t _ _ h1 k1
    have := k.mono t _ _ h2 k2
    omega
  · obtain ⟨x1, x2, h1, h2, rfl⟩ := both_some hx
    have := h.bd t _ ht h1
    have := k.bd t _ ht h2
    omega
  · rcases h.tail with hn | ⟨hs, c, hp⟩
    · exact .inl fun t ht => by show oadd (E t) (E' t) = none; rw [hn t ht, oadd_none_l]
    rcases k.tail with kn | ⟨ks, d, kp⟩
    · exact .inl fun t ht => by show oadd (E t) (E' t) = none; rw [kn t ht, oadd_none_r]
    have e : ∀ t, oadd (E t) (E' t) = some (encF E t + encF E' t) := fun t => by rw [hs t, ks t]; rfl
    have e2 : encF (fun t => oadd (E t) (E' t)) = fun t => encF E t + encF E' t := funext fun t => encF_some (e t)
    refine .inr ⟨fun t => by rw [e2]; exact e t, c + d, fun t ht => ?_⟩
    rw [e2]
    have := hp t ht
    have := kp t ht
    show encF E (t + 24) + encF E' (t + 24) = encF E t + encF E' t + (c + d)
    omega

/-- What is the curve of such a function has such values. -/
theorem Nice.of {K : Int} {E : Nat → Option Int} (h : Nice K E) {zs : List Int} {p : Nat} {inc : Int} (he : ∀ t, eC zs p inc t = E t) : Nice K (eC zs p inc) := by
  rw [show eC zs p inc = E from funext he]; exact h

theorem Nice.le {K K' : Int} {E : Nat → Option Int} (h : Nice K E) (hK : K ≤ K') : Nice K' E := ⟨h.up, h.mono, fun t x ht hx => by have := h.bd t x ht hx; omega, h.tail⟩

/-! ## The same from some tick on: minima and maxima -/

/-- In the end periodic by 24 ticks, and infinite or not. -/
def Day (E : Nat → Option Int) : Prop := ∃ s c, Per (encF E) s 24 c ∧ ((∀ t, s ≤ t → E t = none) ∨ ∀ t, s ≤ t → E t = some (encF E t))

theorem Day.per {E : Nat → Option Int} (h : Day E) : ∃ s c, Per (encF E) s 24 c := by obtain ⟨s, c, h, _⟩ := h; exact ⟨s, c, h⟩

theorem Day.of {E : Nat → Option Int} (h : Day E) {zs : List Int} {p : Nat} {inc : Int} (he : ∀ t, eC zs p inc t = E t) : Day (eC zs p inc) := by rw [show eC zs p inc = E from funext he]; exact h

theorem day_none {E : Nat → Option Int} {s : Nat} (h : ∀ t, s ≤ t → E t = none) : Day E :=
  ⟨s, 0, fun t ht => by rw [encF_none (h t ht), encF_none (h (t + 24) (by omega))]; omega, .inl h⟩

theorem day_some {E : Nat → Option Int} {F : Nat → Int} {s : Nat} {c : Int} (h : ∀ t, s ≤ t → E t = some (F t)) (hp : Per F s 24 c) : Day E :=
  ⟨s, c, fun t ht => by rw [encF_some (h t ht), encF_some (h (t + 24) (by omega))]; exact hp t ht, .inr fun t ht => by rw [encF_some (h t ht)]; exact h t ht⟩

theorem Day.min {E E' : Nat → Option Int} (h : Day E) (k : Day E') : Day (fun t => omin (E t) (E' t)) := by
  obtain ⟨s, c, hp, hn | hs⟩ := h
  · obtain ⟨s', c', kp, kn | ks⟩ := k
    · exact day_none (s := max s s') fun t ht => by show omin (E t) (E' t) = none; rw [hn t (by omega), kn t (by omega)]; rfl
    · exact day_some (s := max s s') (F := encF E') (fun t ht => by show omin (E t) (E' t) = _; rw [hn t (by omega), ks t (by omega)]; rfl) (kp.mono (by omega))
  · obtain ⟨s', c', kp, kn | ks⟩ := k
    · exact day_some (s := max s s') (F := encF E) (fun t ht => by show omin (E t) (E' t) = _; rw [hs t (by omega), kn t (by omega)]; rfl) (hp.mono (by omega))
    · obtain ⟨S, hS⟩ := min_late (hp.mono (show s ≤ s + s' by omega)) (kp.mono (show s' ≤ s + s' by omega)) (show 1 ≤ 24 by omega)
      exact day_some (s := s + s' + S) (F := minF (encF E) (encF E')) (fun t ht => by
        show omin (E t) (E' t) = some (Min.min (encF E t) (encF E' t))
        have e1 := hs t (by omega)
        have e2 := ks t (by omega)
        rw [e1, e2]; rfl) (hS.mono (by omega))

theorem Day.max {E E' : Nat → Option Int} (h : Day E) (k : Day E') : Day (fun t => omax (E t) (E' t)) := by
  obtain ⟨s, c, hp, hn | hs⟩ := h
  · exact day_none (s := s) fun t ht => by show omax (E t) (E' t) = none; rw [hn t (by omega), omax_none_l]
  · obtain ⟨s', c', kp, kn | ks⟩ := k
    · exact day_none (s := s') fun t ht => by show omax (E t) (E' t) = none; rw [kn t (by omega), omax_none_r]
    · obtain ⟨S, hS⟩ := max_late (hp.mono (show s ≤ s + s' by omega)) (kp.mono (show s' ≤ s + s' by omega)) (show 1 ≤ 24 by omega)
      exact day_some (s := s + s' + S) (F := maxF (encF E) (encF E')) (fun t ht => by
        show omax (E t) (E' t) = some (Max.max (encF E t) (encF E' t))
        have e1 := hs t (by omega)
        have e2 := ks t (by omega)
        rw [e1, e2]; rfl) (hS.mono (by omega))

theorem Day.sum {E E' : Nat → Option Int} (h : Day E) (k : Day E') : Day (fun t => oadd (E t) (E' t)) := by
  obtain ⟨s, c, hp, hn | hs⟩ := h
  · exact day_none (s := s) fun t ht => by show oadd (E t) (E' t) = none; rw [hn t ht, oadd_none_l]
  · obtain ⟨s', c', kp, kn | ks⟩ := k
    · exact day_none (s := s') fun t ht => by show oadd (E t) (E' t) = none; rw [kn t ht, oadd_none_r]
    · refine day_some (s := s + s') (F := fun t => encF E t + encF E' t) (c := c + c') (fun t ht => ?_) (fun t ht => ?_)
      · show oadd (E t) (E' t) = _
        have e1 := hs t (by omega)
        have e2 := ks t (by omega)
        rw [e1, e2]; rfl
      · have := hp t (by omega)
        have := kp t (by omega)
        show encF E (t + 24) + encF E' (t + 24) = encF E t + encF E' t + (c + c')
        omega

/-! ## What a reduction needs -/

/-- Constant from tick 16 on, or at least 20 from tick 250 on. -/
def Low (E : Nat → Option Int) : Prop := Per (encF E) 16 24 0 ∨ ∀ t x, 250 ≤ t → E t = some x → 20 ≤ x

theorem Low.sum {K K' : Int} {E E' : Nat → Option Int} (h : Low E) (k : Low E') (n : Nice K E) (m : Nice K' E') (h0 : ∀ t x, E t = some x → 0 ≤ x) (k0 : ∀ t x, E' t = some x → 0 ≤ x) : Low (fun t => oadd (E t) (E' t)) := by
  rcases h with h | h
  · rcases k with k | k
    · rcases n.tail with nn | ⟨ns, _⟩
      · exact .inl (per_none fun t ht => by show oadd (E t) (E' t) = none; rw [nn t ht, oadd_none_l])
      rcases m.tail with mn | ⟨ms, _⟩
      · exact .inl (per_none fun t ht => by show oadd (E t) (E' t) = none; rw [mn t ht, oadd_none_r])
      have e : ∀ t, oadd (E t) (E' t) = some (encF E t + encF E' t) := fun t => by rw [ns t, ms t]; rfl
      have e2 : encF (fun t => oadd (E t) (E' t)) = fun t => encF E t + encF E' t := funext fun t => encF_some (e t)
      refine .inl fun t ht => ?_
      rw [e2]
      have := h t ht
      have := k t ht
      show encF E (t + 24) + encF E' (t + 24) = encF E t + encF E' t + 0
      omega
    · refine .inr fun t x ht hx => ?_
      obtain ⟨y, z, h1, h2, rfl⟩ := both_some hx
      have := h0 t y h1
      have := k t z ht h2
      omega
  · refine .inr fun t x ht hx => ?_
    obtain ⟨y, z, h1, h2, rfl⟩ := both_some hx
    have := k0 t z h2
    have := h t y ht h1
    omega

theorem Low.form {E : Nat → Option Int} (h : Low E) {zs : List Int} {p : Nat} {inc : Int} (f : EForm zs p inc E) (hf : ¬ InfC zs) : inc = 0 ∨ ∀ t, 250 ≤ t → 20 ≤ atC zs p inc t := by
  rcases h with h | h
  · obtain ⟨_, _, s, _, hn⟩ := f.form
    obtain ⟨h1, h2⟩ := hn.divides h
    have hp := hn.pos
    have h3 : p ≤ 24 := hn.per_le h (by omega)
    have h4 : 1 ≤ 24 / p := (Nat.one_le_div_iff (by omega)).2 h3
    rcases Int.mul_eq_zero.1 h2.symm with h5 | h5
    · omega
    · exact .inl h5
  · refine .inr fun t ht => h t _ ht ?_
    rw [← f.2.1 t, eC_fin hf]

/-! ## Greater curves have greater results -/

end Go.Proofs.Ytombgfpheiopgaa

namespace Go.Proofs.Ytombgfpheiopgaa

/-! ## Sums, minima and maxima distribute -/

end Go.Proofs.Ytombgfpheiopgaa

namespace Go.Proofs.Ytombgfpheiopgaa
set_option linter.unusedVariables false

theorem ole_anti {a b : Option Int} (h : ole a b) (k : ole b a) : a = b := by
  cases b with
  | some y =>
    obtain ⟨x, rfl, hx⟩ := h y rfl
    obtain ⟨z, hz, hy⟩ := k x rfl
    cases hz
    congr 1; omega
  | none =>
    cases a with
    | none => rfl
    | some x => obtain ⟨z, hz, _⟩ := k x rfl; cases hz
/-! ## The greatest so far -/

section
variable {D D' : Nat → Option Int}
end

section
variable {d : Nat → Int} {S L : Nat} {δ : Int}
end

/-! ## The least from a tick on -/

def IsLow (D : Nat → Option Int) (t : Nat) (v : Option Int) : Prop := (∃ s, t ≤ s ∧ D s = v) ∧ ∀ s, t ≤ s → ole v (D s)
theorem IsLow.unique {D : Nat → Option Int} {t : Nat} {u v : Option Int} (h : IsLow D t u) (k : IsLow D t v) : u = v := by
  obtain ⟨⟨s, hs, rfl⟩, h1⟩ := h
  obtain ⟨⟨r, hr, rfl⟩, k1⟩ := k
  exact ole_anti (h1 r hr) (k1 s hs)
section
variable {D D' : Nat → Option Int}
end

/-! ## The differences of two curves -/

section
variable {zs ys : List Int} {p q : Nat} {inc jnc : Int}
/-! ### The greatest so far -/

/-- What one period behind tick 400 tells. -/
def Sett (F : Nat → Int) (L : Nat) (G : Int) : Prop := (F (400 + L) - F 400 = G → Per F 400 L G) ∧ ∃ S, Per F S L G
theorem Sett.no {F : Nat → Int} {L : Nat} {G : Int} (h : Sett F L G) (hn : ¬ F (400 + L) - F 400 = G) : ¬ CanBe F := fun hc => by
  obtain ⟨S, hS⟩ := h.2
  have := hc.late hS 400 (Nat.le_refl _)
  omega
/-! ### The least from a tick on -/

end

end Go.Proofs.Ytombgfpheiopgaa

namespace Go.Proofs.Ytombgfpheiopgaa

/-- A function that is given like a curve, all finite. -/
structure RawC (zs : List Int) (p : Nat) (inc : Int) : Prop where
  few : zs.length ≤ 8192
  p1 : 1 ≤ p
  p2 : p ≤ 1024
  p3 : p ≤ zs.length
  i0 : 0 ≤ inc
  i1 : inc ≤ 35184372088832
  val : ∀ i, i < zs.length → 0 ≤ zs.getD i 0 ∧ zs.getD i 0 ≤ 2251799813685248

theorem RawC.fin {zs : List Int} {p : Nat} {inc : Int} (h : RawC zs p inc) : ¬ zs.getD (zs.length - 1) 0 = infV := by
  have h1 := h.p1; have h3 := h.p3
  have := h.val (zs.length - 1) (by omega)
  unfold infV; omega
theorem RawC.small {zs : List Int} {p : Nat} {inc : Int} (h : RawC zs p inc) {i : Nat} (hi : i < zs.length) : 0 ≤ zs.getD i 0 ∧ zs.getD i 0 ≤ 2251799813685248 := h.val i hi
theorem RawC.per {zs : List Int} {p : Nat} {inc : Int} (h : RawC zs p inc) : Per (atC zs p inc) (zs.length - p) p inc := atC_per h.p1 h.p3 h.fin
theorem RawC.bd {zs : List Int} {p : Nat} {inc : Int} (h : RawC zs p inc) (t : Nat) : 0 ≤ atC zs p inc t ∧ atC zs p inc t ≤ 2251799813685248 + 35184372088832 * ((t : Int) + 1) := by
  have h0 := h.i0
  have h1 := h.i1
  induction t using Nat.strongRecOn with
  | ind t ih =>
    have hp := h.p3; have hp1 := h.p1
    by_cases hlt : t < zs.length
    · rw [atC_lt hlt]; have := h.small hlt; omega
    · have e := h.per (t - p) (by omega)
      have := ih (t - p) (by omega)
      rw [show t - p + p = t by omega] at e
      omega

section
variable {zs ys : List Int} {p q : Nat} {inc jnc : Int}

end

end Go.Proofs.Ytombgfpheiopgaa

namespace Go.Proofs.Ytombgfpheiopgaa

section
variable {zs ys : List Int} {p q : Nat} {inc jnc : Int}

/-! ## Sums -/

/-! ## The lesser and the greater of two -/

/-- Where a curve is below one that grows less, the lesser and the greater one of them are no curves. -/
theorem over {a b : Nat → Int} {L : Nat} {ca cb : Int} (ha : Per a 400 L ca) (hb : Per b 400 L cb) (hL : 1 ≤ L) {u : Nat} (hu : 400 ≤ u) (hne : a u < b u) (hlt : cb < ca) : ¬ CanBe (minF a b) ∧ ¬ CanBe (maxF a b) := by
  have hd : Per (fun t => b t - a t) 400 L (cb - ca) := fun t ht => by have := ha t ht; have := hb t ht; show b (t + L) - a (t + L) = b t - a t + (cb - ca); omega
  obtain ⟨S, _, hf⟩ := falls hd hL (by omega)
  have hS : S ≤ S * L := Nat.le_mul_of_pos_right _ hL
  have e1 := ha.mul S u hu
  have e2 := hb.mul S u hu
  have e3 : b (u + S * L) - a (u + S * L) ≤ 0 := hf (u + S * L) (by omega)
  constructor
  · intro hc
    obtain ⟨S', hm⟩ := min_late ha hb hL
    have h := (hc.late hm).mul S u hu
    rw [show min ca cb = cb by omega] at h
    unfold minF at h
    omega
  · intro hc
    obtain ⟨S', hm⟩ := max_late ha hb hL
    have h := (hc.late hm).mul S u hu
    rw [show max ca cb = ca by omega] at h
    unfold maxF at h
    omega

/-! ## One curve -/

end

end Go.Proofs.Ytombgfpheiopgaa
