/- The mathematics of curves that are made from their values: whether there is such a curve, and which. An infinite value is none. Nothing here speaks of the program. By the verifier's side. -/
import Derived.Test.YtjipmkgnndldpaaICurMCurNOrdM
namespace Go.Proofs.Ytjipmkgnndldpaa

/-! ## The least period and start of a function -/

theorem normOf_ex {f : Nat → Int} {s P : Nat} {c : Int} (h : Per f s P c) (hP : 1 ≤ P) : ∃ s' p c', NormOf f s' p c' := by
  obtain ⟨p, ⟨h1, s1, c1, hp⟩, hl⟩ := least_ex (P := fun q => 1 ≤ q ∧ ∃ s c, Per f s q c) ⟨P, hP, s, c, h⟩
  obtain ⟨s2, h2, hs⟩ := least_ex (P := fun s => Per f s p c1) ⟨s1, hp⟩
  refine ⟨s2, p, c1, h2, h1, fun q hq hlt s' c' hk => hl q hlt ⟨hq, s', c', hk⟩, ?_⟩
  rcases Nat.eq_zero_or_pos s2 with h0 | hpos
  · exact .inl h0
  · refine .inr fun he => hs (s2 - 1) (by omega) fun t ht => ?_
    by_cases hlt : t = s2 - 1
    · rw [hlt]; exact he
    · exact h2 t (by omega)

theorem NormOf.start_le {f : Nat → Int} {s p s' P : Nat} {c I : Int} (h : NormOf f s p c) (k : Per f s' P I) (hP : 1 ≤ P) : s ≤ s' := by
  rcases h.start with h0 | hn
  · omega
  · exact Nat.le_of_not_lt fun hlt => hn ((k.any hP h.per) (s - 1) (by omega))

theorem NormOf.per_le {f : Nat → Int} {s p s' P : Nat} {c I : Int} (h : NormOf f s p c) (k : Per f s' P I) (hP : 1 ≤ P) : p ≤ P :=
  Nat.le_of_not_lt fun hlt => h.least P hP hlt _ _ k

theorem Good.perAny {zs : List Int} {p : Nat} {inc : Int} (g : Good zs p inc) : Per (atC zs p inc) (zs.length - p) p inc := by
  by_cases hi : zs.getD (zs.length - 1) 0 = infV
  · have h3 := g.p3
    obtain ⟨rfl, rfl⟩ := g.tailI hi
    intro t ht
    rw [atC_inf hi (by omega) (by omega), atC_inf hi (by omega) (by omega)]; omega
  · exact g.per hi

/-- A curve in normal form with the values F. -/
def Form (zs : List Int) (p : Nat) (inc : Int) (F : Nat → Int) : Prop :=
  Good zs p inc ∧ (∀ t, atC zs p inc t = F t) ∧ ∃ s, zs.length = s + p ∧ NormOf F s p inc

def CanBe (F : Nat → Int) : Prop := ∃ zs p inc, Good zs p inc ∧ ∀ t, atC zs p inc t = F t

theorem Form.unique {zs ys : List Int} {p q : Nat} {inc jnc : Int} {F : Nat → Int} (h : Form zs p inc F) (k : Form ys q jnc F) : zs = ys ∧ p = q ∧ inc = jnc := by
  obtain ⟨g, hv, s, hs, hn⟩ := h
  obtain ⟨g', kv, s', ks, kn⟩ := k
  obtain ⟨rfl, rfl, rfl⟩ := hn.unique kn
  refine ⟨list_ext_getD (by omega) fun i hi => ?_, rfl, rfl⟩
  rw [← atC_lt (p := p) (inc := inc) hi, ← atC_lt (zs := ys) (p := p) (inc := inc) (by omega), hv, kv]

theorem Good.form {ys : List Int} {q : Nat} {j : Int} (g : Good ys q j) {F : Nat → Int} (he : ∀ t, atC ys q j t = F t) {s p : Nat} {c : Int} (hn : NormOf F s p c) :
    s + p ≤ ys.length ∧ p ≤ q ∧ NormC ys q j (firsts F (s + p)) p c ∧ Form (firsts F (s + p)) p c F := by
  have hpe : Per F (ys.length - q) q j := fun t ht => by rw [← he, ← he]; exact g.perAny t ht
  have hs := hn.start_le hpe g.p1
  have hp := hn.per_le hpe g.p1
  have h3 := g.p3
  have h1 := g.p1
  have hp1 := hn.pos
  have htk : firsts F (s + p) = ys.take (s + p) := list_ext_getD (by rw [firsts_length, List.length_take]; omega) fun i hi => by
    rw [firsts_length] at hi
    rw [firsts_getD _ _ _ hi, getD_take hi, ← he, atC_lt (by omega)]
  have hN : NormC ys q j (firsts F (s + p)) p c := by
    rw [htk]
    by_cases hi : ys.getD (ys.length - 1) 0 = infV
    · obtain ⟨rfl, rfl⟩ := g.tailI hi
      obtain rfl : p = 1 := by omega
      have hc : c = 0 := (hn.per.mono hs).same hpe
      subst hc
      have hF : ∀ k, F (s + k) = F s := fun k => by
        induction k with
        | zero => rfl
        | succ k ih => have := hn.per (s + k) (by omega); rw [show s + (k + 1) = s + k + 1 by omega]; omega
      have hFs : F s = infV := by
        have := hF (ys.length - 1 - s)
        rw [show s + (ys.length - 1 - s) = ys.length - 1 by omega, ← he, atC_lt (by omega), hi] at this
        exact this.symm
      refine .inr ⟨s, by omega, by rw [← atC_lt (p := 1) (inc := 0) (show s < ys.length by omega), he]; exact hFs, fun k hk hx => ?_, rfl, rfl, rfl⟩
      rcases hn.start with h0 | hne
      · omega
      · have a1 := g.le (show k ≤ s - 1 by omega) (by omega)
        have a2 := g.val (s - 1) (by omega)
        have a3 := he (s - 1)
        rw [atC_lt (by omega)] at a3
        apply hne
        rw [show s - 1 + 1 = s by omega, hFs, ← a3]
        unfold infV at *; omega
    · exact .inl ⟨hi, s, by rw [show atC ys q j = F from funext he]; exact hn, rfl, by omega, hp⟩
  have hv := hN.values g
  exact ⟨by omega, hp, hN, hN.good g, fun t => (hv t).trans (he t), s, firsts_length _ _, hn⟩

/-- The list that the search makes is the curve, if it is valid. -/
theorem form_of {F : Nat → Int} {s p : Nat} {c : Int} (hn : NormOf F s p c) (g : Good (firsts F (s + p)) p c) : Form (firsts F (s + p)) p c F := by
  have hl := firsts_length F (s + p)
  have hp1 := hn.pos
  refine ⟨g, ?_, s, hl, hn⟩
  by_cases hi : (firsts F (s + p)).getD ((firsts F (s + p)).length - 1) 0 = infV
  · obtain ⟨rfl, rfl⟩ := g.tailI hi
    have hF : ∀ k, F (s + k) = F s := fun k => by
      induction k with
      | zero => rfl
      | succ k ih => have := hn.per (s + k) (by omega); rw [show s + (k + 1) = s + k + 1 by omega]; omega
    have hFs : F s = infV := by rw [hl, show s + 1 - 1 = s by omega, firsts_getD _ _ _ (by omega)] at hi; exact hi
    intro t
    by_cases ht : t < s + 1
    · rw [atC_lt (by omega), firsts_getD _ _ _ ht]
    · rw [atC_inf hi (by omega) (by omega), show t = s + (t - s) by omega, hF, hFs]
  · have hper := atC_per (inc := c) hn.pos (show p ≤ (firsts F (s + p)).length by omega) hi
    rw [hl, show s + p - p = s by omega] at hper
    exact hper.ext hn.per hn.pos fun t ht => by rw [atC_lt (by omega), firsts_getD _ _ _ ht]

theorem no_form {F : Nat → Int} {s p : Nat} {c : Int} (hn : NormOf F s p c) (h : ¬ Good (firsts F (s + p)) p c) : ¬ CanBe F := by
  rintro ⟨ys, q, j, g, he⟩
  exact h (g.form he hn).2.2.2.1

theorem no_form_long {F : Nat → Int} {s p : Nat} {c : Int} (hn : NormOf F s p c) (h : 400 < s + p) : ¬ CanBe F :=
  no_form hn fun g => by have := g.few; rw [firsts_length] at this; omega

theorem CanBe.form {F : Nat → Int} (h : CanBe F) : ∃ zs p inc, Form zs p inc F := by
  obtain ⟨ys, q, j, g, he⟩ := h
  have hpe : Per F (ys.length - q) q j := fun t ht => by rw [← he, ← he]; exact g.perAny t ht
  obtain ⟨s, p, c, hn⟩ := normOf_ex hpe g.p1
  exact ⟨_, _, _, (g.form he hn).2.2.2⟩

theorem CanBe.per {F : Nat → Int} (h : CanBe F) : ∃ s p c, s ≤ 399 ∧ 1 ≤ p ∧ Per F s p c := by
  obtain ⟨ys, q, j, g, he⟩ := h
  have h1 := g.few; have h2 := g.p1; have h3 := g.p3
  exact ⟨ys.length - q, q, j, by omega, h2, fun t ht => by rw [← he, ← he]; exact g.perAny t ht⟩

/-! ## Values that may be infinite -/

def enc : Option Int → Int
  | none => infV
  | some x => x

open Classical in
noncomputable def eC (zs : List Int) (p : Nat) (inc : Int) (t : Nat) : Option Int :=
  if InfC zs ∧ atC zs p inc t = infV then none else some (atC zs p inc t)

theorem enc_eC (zs : List Int) (p : Nat) (inc : Int) (t : Nat) : enc (eC zs p inc t) = atC zs p inc t := by
  unfold eC
  split
  · rename_i h; exact h.2.symm
  · rfl

theorem eC_fin {zs : List Int} (h : ¬ InfC zs) (p : Nat) (inc : Int) (t : Nat) : eC zs p inc t = some (atC zs p inc t) := by
  unfold eC; rw [if_neg (fun hx => h hx.1)]

theorem eC_none {zs : List Int} {p : Nat} {inc : Int} {t : Nat} : eC zs p inc t = none ↔ InfC zs ∧ atC zs p inc t = infV := by
  unfold eC
  split
  · rename_i h; exact ⟨fun _ => h, fun _ => rfl⟩
  · rename_i h; exact ⟨(fun hx => by cases hx), fun hx => absurd hx h⟩

/-- In an infinite curve each value is none or small. -/
theorem eC_inf {zs : List Int} {p : Nat} {inc : Int} (g : Good zs p inc) (hi : InfC zs) (t : Nat) : eC zs p inc t = none ∨ ∃ x, eC zs p inc t = some x ∧ atC zs p inc t = x ∧ 0 ≤ x ∧ x ≤ 1073741824 := by
  rcases g.inf_small hi t with h | h
  · exact .inl (eC_none.2 ⟨hi, h⟩)
  · refine .inr ⟨_, ?_, rfl, h.1, h.2⟩
    unfold eC; rw [if_neg]
    intro hx; have := hx.2; unfold infV at this; omega

theorem eC_late {zs : List Int} {p : Nat} {inc : Int} (g : Good zs p inc) (hi : InfC zs) {t : Nat} (ht : zs.length - 1 ≤ t) : eC zs p inc t = none := by
  have h1 := g.p1; have h3 := g.p3
  exact eC_none.2 ⟨hi, atC_inf hi ht (by omega)⟩

theorem eC_up {zs : List Int} {p : Nat} {inc : Int} (g : Good zs p inc) {t : Nat} (h : eC zs p inc t = none) : eC zs p inc (t + 1) = none := by
  obtain ⟨hi, ha⟩ := eC_none.1 h
  refine eC_none.2 ⟨hi, ?_⟩
  have h1 := g.step t
  rcases g.inf_small hi (t + 1) with h2 | h2
  · exact h2
  · rw [ha] at h1; unfold infV at h1; omega

theorem eC_bd {zs : List Int} {p : Nat} {inc : Int} (g : Good zs p inc) {t : Nat} {x : Int} (h : eC zs p inc t = some x) : 0 ≤ x ∧ x ≤ 1073741824 * ((t : Int) + 1) ∧ atC zs p inc t = x := by
  by_cases hi : InfC zs
  · rcases eC_inf g hi t with h2 | ⟨y, h2, h3, h4, h5⟩
    · rw [h2] at h; cases h
    · rw [h2] at h; cases h; omega
  · rw [eC_fin hi] at h; cases h
    have := g.bd hi t
    omega

/-- What the values of a curve that is to be made keep to: what is infinite stays so, and is told from what is finite. -/
def Tame (E : Nat → Option Int) : Prop :=
  (∀ t, E t = none → E (t + 1) = none) ∧ ((∃ u, 400 ≤ u ∧ ∃ y, E u = some y ∧ ¬ y = infV) ∨ (∀ t x, E t = some x → ¬ x = infV))

/-- A curve in normal form with these values. -/
def EForm (zs : List Int) (p : Nat) (inc : Int) (E : Nat → Option Int) : Prop :=
  Good zs p inc ∧ (∀ t, eC zs p inc t = E t) ∧ ∃ s, zs.length = s + p ∧ NormOf (atC zs p inc) s p inc

def ECan (E : Nat → Option Int) : Prop := ∃ zs p inc, Good zs p inc ∧ ∀ t, eC zs p inc t = E t

def encF (E : Nat → Option Int) (t : Nat) : Int := enc (E t)

theorem stays {E : Nat → Option Int} (h : ∀ t, E t = none → E (t + 1) = none) {t : Nat} (h0 : E t = none) (k : Nat) : E (t + k) = none := by
  induction k with
  | zero => exact h0
  | succ k ih => exact h (t + k) ih

theorem eform_of {E : Nat → Option Int} (hT : Tame E) {zs : List Int} {p : Nat} {inc : Int} (h : Form zs p inc (encF E)) : EForm zs p inc E := by
  obtain ⟨g, hv, s, hs, hn⟩ := h
  refine ⟨g, fun t => ?_, s, hs, by rw [show atC zs p inc = encF E from funext hv]; exact hn⟩
  have hf := g.few; have h1 := g.p1; have h3 := g.p3
  cases hE : E t with
  | none =>
    have ha : atC zs p inc t = infV := by rw [hv]; unfold encF; rw [hE]; rfl
    refine eC_none.2 ⟨Classical.byContradiction fun hi => ?_, ha⟩
    have hall : ∀ k, atC zs p inc (t + k) = infV := fun k => by rw [hv]; unfold encF; rw [stays hT.1 hE]; rfl
    have hper := g.per hi
    have e1 := hper (t + zs.length) (by omega)
    rw [hall, show t + zs.length + p = t + (zs.length + p) by omega, hall] at e1
    have hi0 : inc = 0 := by omega
    have e2 := (hper.mul t) (zs.length - p) (Nat.le_refl _)
    rw [hi0, Int.mul_zero, Int.add_zero] at e2
    have hle : t ≤ t * p := Nat.le_mul_of_pos_right _ (by omega)
    rw [hi0] at hall
    rw [show zs.length - p + t * p = t + (zs.length - p + t * p - t) by omega, hall, atC_lt (by omega)] at e2
    have := g.small hi (show zs.length - p < zs.length by omega)
    unfold infV at e2; omega
  | some x =>
    have ha : atC zs p inc t = x := by rw [hv]; unfold encF; rw [hE]; rfl
    unfold eC
    rw [if_neg, ha]
    rintro ⟨hi, hx⟩
    rcases hT.2 with ⟨u, hu, y, hy, hne⟩ | h
    · apply hne
      have e : atC zs p inc u = y := by rw [hv]; unfold encF; rw [hy]; rfl
      rw [← e]; exact atC_inf hi (by omega) (by omega)
    · exact h t x hE (by rw [← ha]; exact hx)

theorem ECan.can {E : Nat → Option Int} (h : ECan E) : CanBe (encF E) := by
  obtain ⟨zs, p, inc, g, he⟩ := h
  exact ⟨zs, p, inc, g, fun t => by rw [← enc_eC, he]; rfl⟩

theorem EForm.form {zs : List Int} {p : Nat} {inc : Int} {E : Nat → Option Int} (h : EForm zs p inc E) : Form zs p inc (encF E) := by
  obtain ⟨g, he, s, hs, hn⟩ := h
  have hv : ∀ t, atC zs p inc t = encF E t := fun t => by rw [← enc_eC, he]; rfl
  exact ⟨g, hv, s, hs, by rw [← show atC zs p inc = encF E from funext hv]; exact hn⟩

theorem EForm.unique {zs ys : List Int} {p q : Nat} {inc jnc : Int} {E : Nat → Option Int} (h : EForm zs p inc E) (k : EForm ys q jnc E) : zs = ys ∧ p = q ∧ inc = jnc :=
  h.form.unique k.form

theorem EForm.can {zs : List Int} {p : Nat} {inc : Int} {E : Nat → Option Int} (h : EForm zs p inc E) : ECan E := ⟨zs, p, inc, h.1, h.2.1⟩

/-- The normal form of a valid curve. -/
theorem NormC.eform {zs zs' : List Int} {p p' : Nat} {inc inc' : Int} (g : Good zs p inc) (h : NormC zs p inc zs' p' inc') : EForm zs' p' inc' (eC zs p inc) := by
  have hv := h.values g
  have g' := h.good g
  have hfin := h.fin_iff g
  have he : ∀ t, eC zs' p' inc' t = eC zs p inc t := fun t => by
    have e : InfC zs' ↔ InfC zs := hfin
    unfold eC
    rw [hv t]
    by_cases hi : InfC zs
    · have hi' := e.2 hi
      by_cases ha : atC zs p inc t = infV
      · rw [if_pos ⟨hi', ha⟩, if_pos ⟨hi, ha⟩]
      · rw [if_neg (fun hx => ha hx.2), if_neg (fun hx => ha hx.2)]
    · rw [if_neg (fun hx => hi (e.1 hx.1)), if_neg (fun hx => hi hx.1)]
  refine ⟨g', he, ?_⟩
  rw [show atC zs' p' inc' = atC zs p inc from funext hv]
  obtain ⟨s, p2, c2, hn⟩ := normOf_ex g.perAny g.p1
  obtain ⟨_, _, hN, hF⟩ := g.form (fun _ => rfl) hn
  obtain ⟨rfl, rfl, rfl⟩ := h.canon g g hN (fun _ => rfl)
  exact ⟨s, firsts_length _ _, hn⟩

/-! ## Curves from their values -/

theorem good_fin {F : Nat → Int} {s p : Nat} {c : Int} (hp : Per F s p c) (h1 : 1 ≤ p) (h2 : p ≤ 120) (h3 : s + p ≤ 400) (h0 : 0 ≤ F 0) (hm : ∀ t, t < s + p → F t ≤ F (t + 1)) (hb : F (s + p - 1) ≤ 1073741824) (hc : c ≤ 1073741824) :
    Good (firsts F (s + p)) p c ∧ (¬ InfC (firsts F (s + p))) ∧ ∀ t, atC (firsts F (s + p)) p c t = F t := by
  have hl := firsts_length F (s + p)
  have up : ∀ k i, i + k ≤ s + p → F i ≤ F (i + k) := fun k => by
    induction k with
    | zero => intro i _; exact Int.le_refl _
    | succ k ih => intro i hi; have a := ih i (by omega); have b := hm (i + k) (by omega); rw [show i + (k + 1) = i + k + 1 by omega]; omega
  have lo : ∀ i, i ≤ s + p → 0 ≤ F i := fun i hi => by have := up i 0 (by omega); rw [Nat.zero_add] at this; omega
  have hi' : ∀ i, i < s + p → F i ≤ 1073741824 := fun i hi => by have := up (s + p - 1 - i) i (by omega); rw [show i + (s + p - 1 - i) = s + p - 1 by omega] at this; omega
  have hlast : ¬ InfC (firsts F (s + p)) := by
    rw [infC_iff, hl, firsts_getD _ _ _ (by omega)]; unfold infV; omega
  have hc0 : F (s + p) = F s + c := hp s (Nat.le_refl _)
  have hup := up p s (by omega)
  have g : Good (firsts F (s + p)) p c := by
    refine ⟨by omega, h1, h2, by omega, by omega, hc, fun i hi => ?_, fun i hi => ?_, fun hx => absurd hx hlast, fun _ => ?_⟩
    · rw [hl] at hi; rw [firsts_getD _ _ _ hi]; exact .inl ⟨lo i (by omega), hi' i hi⟩
    · rw [hl] at hi; rw [firsts_getD _ _ _ (by omega), firsts_getD _ _ _ hi]; exact hm i (by omega)
    · rw [hl, firsts_getD _ _ _ (by omega), firsts_getD _ _ _ (by omega), show s + p - p = s by omega]
      have := hm (s + p - 1) (by omega)
      rw [show s + p - 1 + 1 = s + p by omega] at this
      omega
  refine ⟨g, hlast, ?_⟩
  have hper := g.per hlast
  rw [hl, show s + p - p = s by omega] at hper
  exact hper.ext hp h1 fun t ht => by rw [atC_lt (by omega), firsts_getD _ _ _ ht]

/-- There is a curve with these values, all finite. -/
theorem can_fin {E : Nat → Option Int} {F : Nat → Int} (hE : ∀ t, E t = some (F t)) {s p : Nat} {c : Int} (hp : Per F s p c) (h1 : 1 ≤ p) (h2 : p ≤ 120) (h3 : s + p ≤ 400) (h0 : 0 ≤ F 0) (hm : ∀ t, t < s + p → F t ≤ F (t + 1)) (hb : F (s + p - 1) ≤ 1073741824) (hc : c ≤ 1073741824) : ECan E := by
  obtain ⟨g, hf, hv⟩ := good_fin hp h1 h2 h3 h0 hm hb hc
  exact ⟨_, _, _, g, fun t => by rw [eC_fin hf, hv, hE]⟩

/-! ## The greater and the lesser of two functions -/

def maxF (a b : Nat → Int) (t : Nat) : Int := max (a t) (b t)
def minF (a b : Nat → Int) (t : Nat) : Int := min (a t) (b t)

theorem max_found {a b : Nat → Int} {S L : Nat} {ca cb : Int} (ha : Per a S L ca) (hb : Per b S L cb) (hL : 1 ≤ L) (h : ∀ t, S ≤ t → t < S + L → maxF a b (t + L) = maxF a b t + max ca cb) : Per (maxF a b) S L (max ca cb) := by
  intro t
  induction t using Nat.strongRecOn with
  | ind t ih =>
    intro ht
    by_cases hlt : t < S + L
    · exact h t ht hlt
    · obtain ⟨u, rfl⟩ : ∃ u, t = u + L := ⟨t - L, by omega⟩
      have h0 := ih u (by omega) (by omega)
      have a1 := ha u (by omega)
      have a2 := ha (u + L) (by omega)
      have b1 := hb u (by omega)
      have b2 := hb (u + L) (by omega)
      unfold maxF at *
      rw [a2, b2]
      rw [a1, b1] at h0 ⊢
      omega

theorem min_found {a b : Nat → Int} {S L : Nat} {ca cb : Int} (ha : Per a S L ca) (hb : Per b S L cb) (hL : 1 ≤ L) (h : ∀ t, S ≤ t → t < S + L → minF a b (t + L) = minF a b t + min ca cb) : Per (minF a b) S L (min ca cb) := by
  intro t
  induction t using Nat.strongRecOn with
  | ind t ih =>
    intro ht
    by_cases hlt : t < S + L
    · exact h t ht hlt
    · obtain ⟨u, rfl⟩ : ∃ u, t = u + L := ⟨t - L, by omega⟩
      have h0 := ih u (by omega) (by omega)
      have a1 := ha u (by omega)
      have a2 := ha (u + L) (by omega)
      have b1 := hb u (by omega)
      have b2 := hb (u + L) (by omega)
      unfold minF at *
      rw [a2, b2]
      rw [a1, b1] at h0 ⊢
      omega

theorem bound_ex (d : Nat → Int) (S : Nat) : ∀ L, ∃ K : Nat, ∀ r, r < L → d (S + r) ≤ K
  | 0 => ⟨0, fun r hr => absurd hr (Nat.not_lt_zero _)⟩
  | L + 1 => by
    obtain ⟨K, hK⟩ := bound_ex d S L
    refine ⟨K + (d (S + L)).toNat, fun r hr => ?_⟩
    by_cases he : r = L
    · subst he; omega
    · have := hK r (by omega); omega

/-- What falls from period to period is below 0 in the end. -/
theorem falls {d : Nat → Int} {S L : Nat} {c : Int} (h : Per d S L c) (hL : 1 ≤ L) (hc : c < 0) : ∃ S', S ≤ S' ∧ ∀ t, S' ≤ t → d t ≤ 0 := by
  obtain ⟨K, hK⟩ := bound_ex d S L
  refine ⟨S + (K + 1) * L, by omega, fun t ht => ?_⟩
  obtain ⟨r, j, hr, rfl⟩ := tick_split (S := S) hL (show S ≤ t by omega)
  have hj : K ≤ j := by
    refine Nat.le_of_not_lt fun hlt => ?_
    have h1 : j * L + L ≤ K * L := by
      have := Nat.mul_le_mul_right L (show j + 1 ≤ K by omega)
      rwa [Nat.succ_mul] at this
    rw [Nat.succ_mul] at ht
    omega
  rw [h.to r j]
  have h1 := hK r hr
  have h2 : (j : Int) * c ≤ (j : Int) * (-1) := Int.mul_le_mul_of_nonneg_left (by omega) (by omega)
  omega

theorem max_late {a b : Nat → Int} {S L : Nat} {ca cb : Int} (ha : Per a S L ca) (hb : Per b S L cb) (hL : 1 ≤ L) : ∃ S', Per (maxF a b) S' L (max ca cb) := by
  have hd : Per (fun t => a t - b t) S L (ca - cb) := fun t ht => by have := ha t ht; have := hb t ht; show a (t + L) - b (t + L) = a t - b t + (ca - cb); omega
  have hd' : Per (fun t => b t - a t) S L (cb - ca) := fun t ht => by have := ha t ht; have := hb t ht; show b (t + L) - a (t + L) = b t - a t + (cb - ca); omega
  rcases Int.lt_trichotomy ca cb with h | h | h
  · obtain ⟨S', hS, hf⟩ := falls hd hL (by omega)
    refine ⟨S', fun t ht => ?_⟩
    have e1 : a t - b t ≤ 0 := hf t ht
    have e2 : a (t + L) - b (t + L) ≤ 0 := hf (t + L) (by omega)
    have e3 := hb t (by omega)
    unfold maxF; omega
  · refine ⟨S, fun t ht => ?_⟩
    have e1 := ha t ht
    have e2 := hb t ht
    unfold maxF; omega
  · obtain ⟨S', hS, hf⟩ := falls hd' hL (by omega)
    refine ⟨S', fun t ht => ?_⟩
    have e1 : b t - a t ≤ 0 := hf t ht
    have e2 : b (t + L) - a (t + L) ≤ 0 := hf (t + L) (by omega)
    have e3 := ha t (by omega)
    unfold maxF; omega

theorem min_late {a b : Nat → Int} {S L : Nat} {ca cb : Int} (ha : Per a S L ca) (hb : Per b S L cb) (hL : 1 ≤ L) : ∃ S', Per (minF a b) S' L (min ca cb) := by
  have hd : Per (fun t => a t - b t) S L (ca - cb) := fun t ht => by have := ha t ht; have := hb t ht; show a (t + L) - b (t + L) = a t - b t + (ca - cb); omega
  have hd' : Per (fun t => b t - a t) S L (cb - ca) := fun t ht => by have := ha t ht; have := hb t ht; show b (t + L) - a (t + L) = b t - a t + (cb - ca); omega
  rcases Int.lt_trichotomy ca cb with h | h | h
  · obtain ⟨S', hS, hf⟩ := falls hd hL (by omega)
    refine ⟨S', fun t ht => ?_⟩
    have e1 : a t - b t ≤ 0 := hf t ht
    have e2 : a (t + L) - b (t + L) ≤ 0 := hf (t + L) (by omega)
    have e3 := ha t (by omega)
    unfold minF; omega
  · refine ⟨S, fun t ht => ?_⟩
    have e1 := ha t ht
    have e2 := hb t ht
    unfold minF; omega
  · obtain ⟨S', hS, hf⟩ := falls hd' hL (by omega)
    refine ⟨S', fun t ht => ?_⟩
    have e1 : b t - a t ≤ 0 := hf t ht
    have e2 : b (t + L) - a (t + L) ≤ 0 := hf (t + L) (by omega)
    have e3 := hb t (by omega)
    unfold minF; omega

/-- If a function grows by G in the end, and is a curve's, then it does so in each period behind tick 400. -/
theorem CanBe.late {F : Nat → Int} (h : CanBe F) {S L : Nat} {G : Int} (k : Per F S L G) : Per F 400 L G := by
  obtain ⟨s, p, c, hs, hp, hk⟩ := h.per
  exact (hk.any hp k).mono (by omega)

end Go.Proofs.Ytjipmkgnndldpaa

namespace Go.Proofs.Ytjipmkgnndldpaa

def oadd : Option Int → Option Int → Option Int
  | some x, some y => some (x + y)
  | _, _ => none
def omin : Option Int → Option Int → Option Int
  | none, y => y
  | some x, none => some x
  | some x, some y => some (min x y)
def omax : Option Int → Option Int → Option Int
  | some x, some y => some (max x y)
  | _, _ => none
def plI (a b : Int) : Int := if a = infV ∨ b = infV then infV else a + b

theorem plI_fin {a b : Int} (ha : ¬ a = infV) (hb : ¬ b = infV) : plI a b = a + b := by unfold plI; rw [if_neg (fun h => h.elim ha hb)]
theorem plI_l (b : Int) : plI infV b = infV := by unfold plI; rw [if_pos (.inl rfl)]
theorem plI_r (a : Int) : plI a infV = infV := by unfold plI; rw [if_pos (.inr rfl)]

theorem oadd_none_l (y : Option Int) : oadd none y = none := by cases y <;> rfl
theorem oadd_none_r (x : Option Int) : oadd x none = none := by cases x <;> rfl
theorem omax_none_l (y : Option Int) : omax none y = none := by cases y <;> rfl
theorem omax_none_r (x : Option Int) : omax x none = none := by cases x <;> rfl
/-- How much a curve grows in L ticks in the long run. -/
noncomputable def growI (zs : List Int) (p : Nat) (inc : Int) (L : Nat) : Int :=
  open Classical in if InfC zs then infV else ((L / p : Nat) : Int) * inc
theorem growI_inf {zs : List Int} (h : InfC zs) (p : Nat) (inc : Int) (L : Nat) : growI zs p inc L = infV := by unfold growI; rw [if_pos h]
theorem growI_fin {zs : List Int} (h : ¬ InfC zs) (p : Nat) (inc : Int) (L : Nat) : growI zs p inc L = ((L / p : Nat) : Int) * inc := by unfold growI; rw [if_neg h]

/-- A number that is infinite or small. -/
def Mid (x : Int) : Prop := x = infV ∨ (0 ≤ x ∧ x ≤ 1125899906842624)

def chk (F : Nat → Int) (L : Nat) (G : Int) : Prop := ∀ t, 400 ≤ t → t < 400 + L → F (t + L) = plI (F t) G
/-- The test of one period tells whether there is a curve. -/
def Settling (F : Nat → Int) (L : Nat) (G : Int) : Prop := (chk F L G → ∃ c, Per F 400 L c) ∧ (¬ chk F L G → ¬ CanBe F)
/-- The test of one period from the tick s on. -/
def chkS (F : Nat → Int) (s L : Nat) (G : Int) : Prop := ∀ t, s ≤ t → t < s + L → F (t + L) = plI (F t) G
def SettlingS (F : Nat → Int) (s L : Nat) (G : Int) : Prop := (chkS F s L G → ∃ c, Per F s L c) ∧ (¬ chkS F s L G → ¬ CanBe F)
theorem settling_of {F : Nat → Int} {L : Nat} {G c : Int} (hp : Per F 400 L c) (hc : chk F L G) : Settling F L G := ⟨fun _ => ⟨c, hp⟩, fun h => absurd hc h⟩

theorem settling_inf {F : Nat → Int} {L : Nat} (h : ∀ t, 400 ≤ t → F t = infV) : Settling F L infV :=
  settling_of (c := 0) (fun t ht => by rw [h t ht, h (t + L) (by omega)]; omega) (fun t h1 _ => by rw [h t h1, h (t + L) (by omega), plI_l])

section
variable {zs ys : List Int} {p q : Nat} {inc jnc : Int}

theorem Good.perL (g : Good zs p inc) (hf : ¬ InfC zs) {L : Nat} (hL : L / p * p = L) : Per (atC zs p inc) 400 L (((L / p : Nat) : Int) * inc) := by
  have h := (g.per hf).mul (L / p)
  rw [hL] at h
  have := g.few
  exact h.mono (by omega)

theorem grow_mid (g : Good zs p inc) {L : Nat} (hL : L ≤ 120) : Mid (growI zs p inc L) := by
  by_cases hi : InfC zs
  · rw [growI_inf hi]; exact .inl rfl
  · rw [growI_fin hi]
    have h0 := g.i0; have h1 := g.i1
    have h2 : L / p ≤ 120 := Nat.le_trans (Nat.div_le_self _ _) hL
    refine .inr ⟨Int.mul_nonneg (Int.natCast_nonneg _) h0, ?_⟩
    have : ((L / p : Nat) : Int) * inc ≤ 120 * 1073741824 := Int.mul_le_mul (by omega) h1 h0 (by omega)
    omega

theorem at_mid (g : Good zs p inc) {t : Nat} (ht : t ≤ 1000) : Mid (atC zs p inc t) := by
  rcases g.seen (t := t) (by omega) with h | ⟨_, h2, h3⟩
  · exact .inl h.2
  · exact .inr ⟨h2, by omega⟩

/-- The value of a curve at a tick that is not late, and the value with infinity. -/
theorem eC_cases (g : Good zs p inc) {t : Nat} (_ht : t ≤ 1048576) : (eC zs p inc t = none ∧ atC zs p inc t = infV) ∨ (∃ x, eC zs p inc t = some x ∧ atC zs p inc t = x ∧ 0 ≤ x ∧ x ≤ 1073741824 * ((t : Int) + 1)) := by
  cases h : eC zs p inc t with
  | none => exact .inl ⟨rfl, (eC_none.1 h).2⟩
  | some x => have := eC_bd g h; exact .inr ⟨x, rfl, this.2.2, this.1, this.2.1⟩

theorem eC_400 (g : Good zs p inc) (hi : InfC zs) {t : Nat} (ht : 399 ≤ t) : eC zs p inc t = none := eC_late g hi (by have := g.few; omega)

/-! ### Sum -/

noncomputable def eSum (zs : List Int) (p : Nat) (inc : Int) (ys : List Int) (q : Nat) (jnc : Int) (t : Nat) : Option Int := oadd (eC zs p inc t) (eC ys q jnc t)
noncomputable def eMin (zs : List Int) (p : Nat) (inc : Int) (ys : List Int) (q : Nat) (jnc : Int) (t : Nat) : Option Int := omin (eC zs p inc t) (eC ys q jnc t)
noncomputable def eMax (zs : List Int) (p : Nat) (inc : Int) (ys : List Int) (q : Nat) (jnc : Int) (t : Nat) : Option Int := omax (eC zs p inc t) (eC ys q jnc t)

/-- What is asked of a choice between two curves. -/
structure PairOk (ch : Int → Int → Int) (E : Nat → Option Int) (zs : List Int) (p : Nat) (inc : Int) (ys : List Int) (q : Nat) (jnc : Int) : Prop where
  val : ∀ t, t ≤ 1000 → encF E t = ch (atC zs p inc t) (atC ys q jnc t)
  mid : ∀ t, t ≤ 1000 → Mid (encF E t)
  gmid : ∀ L, L ≤ 120 → Mid (ch (growI zs p inc L) (growI ys q jnc L))
  settle : ∀ L, 1 ≤ L → L ≤ 120 → L / p * p = L → L / q * q = L → Settling (encF E) L (ch (growI zs p inc L) (growI ys q jnc L))
  tame : Tame E

theorem sum_mid {x y : Int} (hx : x = infV ∨ (0 ≤ x ∧ x ≤ 1099511627776)) (hy : y = infV ∨ (0 ≤ y ∧ y ≤ 1099511627776)) : Mid (plI x y) := by
  unfold Mid plI
  rcases hx with rfl | hx
  · rw [if_pos (.inl rfl)]; exact .inl rfl
  · rcases hy with rfl | hy
    · rw [if_pos (.inr rfl)]; exact .inl rfl
    · rw [if_neg]
      · exact .inr ⟨by omega, by omega⟩
      · unfold infV; omega

theorem grow_low (g : Good zs p inc) {L : Nat} (hL : L ≤ 120) : growI zs p inc L = infV ∨ (0 ≤ growI zs p inc L ∧ growI zs p inc L ≤ 1099511627776) := by
  by_cases hi : InfC zs
  · exact .inl (growI_inf hi p inc L)
  · rw [growI_fin hi]
    have h0 := g.i0; have h1 := g.i1
    have h2 : L / p ≤ 120 := Nat.le_trans (Nat.div_le_self _ _) hL
    refine .inr ⟨Int.mul_nonneg (Int.natCast_nonneg _) h0, ?_⟩
    have : ((L / p : Nat) : Int) * inc ≤ 120 * 1073741824 := Int.mul_le_mul (by omega) h1 h0 (by omega)
    omega

theorem at_low (g : Good zs p inc) {t : Nat} (ht : t ≤ 1000) : atC zs p inc t = infV ∨ (0 ≤ atC zs p inc t ∧ atC zs p inc t ≤ 1099511627776) := by
  rcases g.seen (t := t) (by omega) with h | ⟨_, h2, h3⟩
  · exact .inl h.2
  · exact .inr ⟨h2, by omega⟩

/-- Of a finite curve the growth and the early values are small. -/
theorem fin_low (g : Good zs p inc) (hf : ¬ InfC zs) {L : Nat} (hL : L ≤ 120) : (0 ≤ ((L / p : Nat) : Int) * inc ∧ ((L / p : Nat) : Int) * inc ≤ 1099511627776) ∧ ∀ t, t ≤ 1000 → 0 ≤ atC zs p inc t ∧ atC zs p inc t ≤ 1099511627776 := by
  refine ⟨?_, fun t ht => ?_⟩
  · have := grow_low g hL
    rw [growI_fin hf] at this
    rcases this with h | h
    · exfalso
      have h0 := g.i0; have h1 := g.i1
      have h2 : L / p ≤ 120 := Nat.le_trans (Nat.div_le_self _ _) hL
      have : ((L / p : Nat) : Int) * inc ≤ 120 * 1073741824 := Int.mul_le_mul (by omega) h1 h0 (by omega)
      unfold infV at h; omega
    · exact h
  · have := g.bd hf t
    omega

theorem sum_val (g : Good zs p inc) (k : Good ys q jnc) {t : Nat} (ht : t ≤ 1048576) : enc (eSum zs p inc ys q jnc t) = plI (atC zs p inc t) (atC ys q jnc t) := by
  unfold eSum
  rcases eC_cases g ht with ⟨h1, h2⟩ | ⟨x, h1, h2, h3, h4⟩
  · rw [h1, h2, plI_l, oadd_none_l]; rfl
  · rcases eC_cases k ht with ⟨k1, k2⟩ | ⟨y, k1, k2, k3, k4⟩
    · rw [k1, k2, plI_r, oadd_none_r]; rfl
    · rw [h1, k1, h2, k2, plI_fin (by unfold infV; omega) (by unfold infV; omega)]; rfl

theorem min_val (g : Good zs p inc) (k : Good ys q jnc) {t : Nat} (ht : t ≤ 1048576) : enc (eMin zs p inc ys q jnc t) = min (atC zs p inc t) (atC ys q jnc t) := by
  unfold eMin
  rcases eC_cases g ht with ⟨h1, h2⟩ | ⟨x, h1, h2, h3, h4⟩
  · rcases eC_cases k ht with ⟨k1, k2⟩ | ⟨y, k1, k2, k3, k4⟩
    · rw [h1, k1, h2, k2]; show infV = _; omega
    · rw [h1, k1, h2, k2]; show y = _; unfold infV; omega
  · rcases eC_cases k ht with ⟨k1, k2⟩ | ⟨y, k1, k2, k3, k4⟩
    · rw [h1, k1, h2, k2]; show x = _; unfold infV; omega
    · rw [h1, k1, h2, k2]; rfl

theorem max_val (g : Good zs p inc) (k : Good ys q jnc) {t : Nat} (ht : t ≤ 1048576) : enc (eMax zs p inc ys q jnc t) = max (atC zs p inc t) (atC ys q jnc t) := by
  unfold eMax
  rcases eC_cases g ht with ⟨h1, h2⟩ | ⟨x, h1, h2, h3, h4⟩
  · rcases eC_cases k ht with ⟨k1, k2⟩ | ⟨y, k1, k2, k3, k4⟩
    · rw [h1, k1, h2, k2]; show infV = _; omega
    · rw [h1, k1, h2, k2]; show infV = _; unfold infV; omega
  · rcases eC_cases k ht with ⟨k1, k2⟩ | ⟨y, k1, k2, k3, k4⟩
    · rw [h1, k1, h2, k2]; show infV = _; unfold infV; omega
    · rw [h1, k1, h2, k2]; rfl

theorem sum_up (g : Good zs p inc) (k : Good ys q jnc) (t : Nat) (h : eSum zs p inc ys q jnc t = none) : eSum zs p inc ys q jnc (t + 1) = none := by
  unfold eSum at *
  cases h1 : eC zs p inc t with
  | none => rw [eC_up g h1, oadd_none_l]
  | some x =>
    cases h2 : eC ys q jnc t with
    | none => rw [eC_up k h2, oadd_none_r]
    | some y => rw [h1, h2] at h; cases h

theorem max_up (g : Good zs p inc) (k : Good ys q jnc) (t : Nat) (h : eMax zs p inc ys q jnc t = none) : eMax zs p inc ys q jnc (t + 1) = none := by
  unfold eMax at *
  cases h1 : eC zs p inc t with
  | none => rw [eC_up g h1, omax_none_l]
  | some x =>
    cases h2 : eC ys q jnc t with
    | none => rw [eC_up k h2, omax_none_r]
    | some y => rw [h1, h2] at h; cases h

theorem min_up (g : Good zs p inc) (k : Good ys q jnc) (t : Nat) (h : eMin zs p inc ys q jnc t = none) : eMin zs p inc ys q jnc (t + 1) = none := by
  unfold eMin at *
  cases h1 : eC zs p inc t with
  | none =>
    cases h2 : eC ys q jnc t with
    | none => rw [eC_up g h1, eC_up k h2]; rfl
    | some y => rw [h1, h2] at h; cases h
  | some x => cases h2 : eC ys q jnc t <;> (rw [h1, h2] at h; cases h)

/-- Of an infinite sum or maximum the finite values are small. -/
theorem both_some {a b : Option Int} {x : Int} (h : oadd a b = some x) : ∃ y z, a = some y ∧ b = some z ∧ x = y + z := by
  cases a with
  | none => rw [oadd_none_l] at h; cases h
  | some y =>
    cases b with
    | none => cases h
    | some z => exact ⟨y, z, rfl, rfl, by cases h; rfl⟩
theorem both_some_max {a b : Option Int} {x : Int} (h : omax a b = some x) : ∃ y z, a = some y ∧ b = some z ∧ x = max y z := by
  cases a with
  | none => rw [omax_none_l] at h; cases h
  | some y =>
    cases b with
    | none => cases h
    | some z => exact ⟨y, z, rfl, rfl, by cases h; rfl⟩

/-- In a sum or maximum with an infinite curve the ticks with a finite value are early. -/
theorem early (g : Good zs p inc) (hi : InfC zs) {t : Nat} {y : Int} (h : eC zs p inc t = some y) : t ≤ 399 := by
  refine Nat.le_of_not_lt fun hlt => ?_
  rw [eC_400 g hi (by omega)] at h; cases h

theorem sum_pair (g : Good zs p inc) (k : Good ys q jnc) : PairOk plI (eSum zs p inc ys q jnc) zs p inc ys q jnc := by
  have hmid : ∀ t, t ≤ 1000 → Mid (encF (eSum zs p inc ys q jnc) t) := fun t ht => by
    unfold encF; rw [sum_val g k (by omega)]; exact sum_mid (at_low g ht) (at_low k ht)
  refine ⟨fun t ht => sum_val g k (by omega), hmid, fun L hL => sum_mid (grow_low g hL) (grow_low k hL), fun L h1 hL hp hq => ?_, ?_⟩
  · by_cases hi : InfC zs
    · rw [growI_inf hi, plI_l]
      exact settling_inf fun t ht => by unfold encF eSum; rw [eC_400 g hi (by omega), oadd_none_l]; rfl
    by_cases hj : InfC ys
    · rw [growI_inf hj, plI_r]
      exact settling_inf fun t ht => by unfold encF eSum; rw [eC_400 k hj (by omega), oadd_none_r]; rfl
    have hv : ∀ t, encF (eSum zs p inc ys q jnc) t = atC zs p inc t + atC ys q jnc t := fun t => by unfold encF eSum; rw [eC_fin hi, eC_fin hj]; rfl
    have ha := g.perL hi hp
    have hb := k.perL hj hq
    obtain ⟨g1, g2⟩ := fin_low g hi hL
    obtain ⟨k1, k2⟩ := fin_low k hj hL
    rw [growI_fin hi, growI_fin hj, plI_fin (by unfold infV; omega) (by unfold infV; omega)]
    refine settling_of (c := ((L / p : Nat) : Int) * inc + ((L / q : Nat) : Int) * jnc) (fun t ht => ?_) (fun t h1 h2 => ?_)
    · rw [hv, hv, ha t ht, hb t ht]; omega
    · have a1 := g2 t (by omega)
      have a2 := k2 t (by omega)
      rw [hv, hv, plI_fin (by unfold infV; omega) (by unfold infV; omega), ha t h1, hb t h1]; omega
  · refine ⟨sum_up g k, ?_⟩
    by_cases hi : InfC zs
    · refine .inr fun t x h => ?_
      obtain ⟨y, z, h1, h2, rfl⟩ := both_some h
      have := early g hi h1
      have := eC_bd g h1
      have := eC_bd k h2
      unfold infV; omega
    by_cases hj : InfC ys
    · refine .inr fun t x h => ?_
      obtain ⟨y, z, h1, h2, rfl⟩ := both_some h
      have := early k hj h2
      have := eC_bd g h1
      have := eC_bd k h2
      unfold infV; omega
    have a1 := g.bd hi 400
    have a2 := k.bd hj 400
    exact .inl ⟨400, Nat.le_refl _, atC zs p inc 400 + atC ys q jnc 400, by unfold eSum; rw [eC_fin hi, eC_fin hj]; rfl, by unfold infV; omega⟩

theorem max_mid {x y : Int} (hx : Mid x) (hy : Mid y) : Mid (max x y) := by
  unfold Mid infV at *; omega
theorem min_mid {x y : Int} (hx : Mid x) (hy : Mid y) : Mid (min x y) := by
  unfold Mid infV at *; omega

theorem max_pair (g : Good zs p inc) (k : Good ys q jnc) : PairOk max (eMax zs p inc ys q jnc) zs p inc ys q jnc := by
  refine ⟨fun t ht => max_val g k (by omega), fun t ht => ?_, fun L hL => max_mid (grow_mid g hL) (grow_mid k hL), fun L h1 hL hp hq => ?_, ?_⟩
  · unfold encF; rw [max_val g k (by omega)]; exact max_mid (at_mid g ht) (at_mid k ht)
  · by_cases hi : InfC zs
    · have e : max (growI zs p inc L) (growI ys q jnc L) = infV := by
        rw [growI_inf hi]; have := grow_mid k hL; unfold Mid infV at *; omega
      rw [e]
      exact settling_inf fun t ht => by unfold encF eMax; rw [eC_400 g hi (by omega), omax_none_l]; rfl
    by_cases hj : InfC ys
    · have e : max (growI zs p inc L) (growI ys q jnc L) = infV := by
        rw [growI_inf hj]; have := grow_mid g hL; unfold Mid infV at *; omega
      rw [e]
      exact settling_inf fun t ht => by unfold encF eMax; rw [eC_400 k hj (by omega), omax_none_r]; rfl
    have hv : encF (eMax zs p inc ys q jnc) = maxF (atC zs p inc) (atC ys q jnc) := funext fun t => by unfold encF eMax; rw [eC_fin hi, eC_fin hj]; rfl
    have ha := g.perL hi hp
    have hb := k.perL hj hq
    obtain ⟨g1, g2⟩ := fin_low g hi hL
    obtain ⟨k1, k2⟩ := fin_low k hj hL
    rw [growI_fin hi, growI_fin hj, hv]
    generalize ((L / p : Nat) : Int) * inc = ca at *
    generalize ((L / q : Nat) : Int) * jnc = cb at *
    have hch : ∀ t, 400 ≤ t → t < 400 + L → plI (maxF (atC zs p inc) (atC ys q jnc) t) (max ca cb) = maxF (atC zs p inc) (atC ys q jnc) t + max ca cb := fun t h1 h2 => by
      have a1 := g2 t (by omega)
      have a2 := k2 t (by omega)
      exact plI_fin (by unfold maxF infV; omega) (by unfold infV; omega)
    refine ⟨fun hc => ⟨_, max_found ha hb h1 fun t h3 h4 => by rw [hc t h3 h4, hch t h3 h4]⟩, fun hc hcan => hc fun t h3 h4 => ?_⟩
    obtain ⟨S', hS⟩ := max_late ha hb h1
    rw [hch t h3 h4]
    exact hcan.late hS t h3
  · refine ⟨max_up g k, ?_⟩
    by_cases hi : InfC zs
    · refine .inr fun t x h => ?_
      obtain ⟨y, z, h1, h2, rfl⟩ := both_some_max h
      have := early g hi h1
      have := eC_bd g h1
      have := eC_bd k h2
      unfold infV; omega
    by_cases hj : InfC ys
    · refine .inr fun t x h => ?_
      obtain ⟨y, z, h1, h2, rfl⟩ := both_some_max h
      have := early k hj h2
      have := eC_bd g h1
      have := eC_bd k h2
      unfold infV; omega
    have a1 := g.bd hi 400
    have a2 := k.bd hj 400
    exact .inl ⟨400, Nat.le_refl _, max (atC zs p inc 400) (atC ys q jnc 400), by unfold eMax; rw [eC_fin hi, eC_fin hj]; rfl, by unfold infV; omega⟩

theorem min_pair (g : Good zs p inc) (k : Good ys q jnc) : PairOk min (eMin zs p inc ys q jnc) zs p inc ys q jnc := by
  refine ⟨fun t ht => min_val g k (by omega), fun t ht => ?_, fun L hL => min_mid (grow_mid g hL) (grow_mid k hL), fun L h1 hL hp hq => ?_, ?_⟩
  · unfold encF; rw [min_val g k (by omega)]; exact min_mid (at_mid g ht) (at_mid k ht)
  · by_cases hi : InfC zs
    · by_cases hj : InfC ys
      · have e : min (growI zs p inc L) (growI ys q jnc L) = infV := by rw [growI_inf hi, growI_inf hj]; omega
        rw [e]
        exact settling_inf fun t ht => by unfold encF eMin; rw [eC_400 g hi (by omega), eC_400 k hj (by omega)]; rfl
      · have hb := k.perL hj hq
        obtain ⟨k1, k2⟩ := fin_low k hj hL
        have e : min (growI zs p inc L) (growI ys q jnc L) = ((L / q : Nat) : Int) * jnc := by rw [growI_inf hi, growI_fin hj]; unfold infV; omega
        have hv : ∀ t, 400 ≤ t → encF (eMin zs p inc ys q jnc) t = atC ys q jnc t := fun t ht => by unfold encF eMin; rw [eC_400 g hi (by omega), eC_fin hj]; rfl
        rw [e]
        refine settling_of (c := ((L / q : Nat) : Int) * jnc) (fun t ht => ?_) (fun t h1 h2 => ?_)
        · rw [hv t ht, hv (t + L) (by omega), hb t ht]
        · have a2 := k2 t (by omega)
          rw [hv t h1, hv (t + L) (by omega), hb t h1, plI_fin (by unfold infV; omega) (by unfold infV; omega)]
    by_cases hj : InfC ys
    · have hb := g.perL hi hp
      obtain ⟨k1, k2⟩ := fin_low g hi hL
      have e : min (growI zs p inc L) (growI ys q jnc L) = ((L / p : Nat) : Int) * inc := by rw [growI_inf hj, growI_fin hi]; unfold infV; omega
      have hv : ∀ t, 400 ≤ t → encF (eMin zs p inc ys q jnc) t = atC zs p inc t := fun t ht => by unfold encF eMin; rw [eC_400 k hj (by omega), eC_fin hi]; rfl
      rw [e]
      refine settling_of (c := ((L / p : Nat) : Int) * inc) (fun t ht => ?_) (fun t h1 h2 => ?_)
      · rw [hv t ht, hv (t + L) (by omega), hb t ht]
      · have a2 := k2 t (by omega)
        rw [hv t h1, hv (t + L) (by omega), hb t h1, plI_fin (by unfold infV; omega) (by unfold infV; omega)]
    have hv : encF (eMin zs p inc ys q jnc) = minF (atC zs p inc) (atC ys q jnc) := funext fun t => by unfold encF eMin; rw [eC_fin hi, eC_fin hj]; rfl
    have ha := g.perL hi hp
    have hb := k.perL hj hq
    obtain ⟨g1, g2⟩ := fin_low g hi hL
    obtain ⟨k1, k2⟩ := fin_low k hj hL
    rw [growI_fin hi, growI_fin hj, hv]
    generalize ((L / p : Nat) : Int) * inc = ca at *
    generalize ((L / q : Nat) : Int) * jnc = cb at *
    have hch : ∀ t, 400 ≤ t → t < 400 + L → plI (minF (atC zs p inc) (atC ys q jnc) t) (min ca cb) = minF (atC zs p inc) (atC ys q jnc) t + min ca cb := fun t h1 h2 => by
      have a1 := g2 t (by omega)
      have a2 := k2 t (by omega)
      exact plI_fin (by unfold minF infV; omega) (by unfold infV; omega)
    refine ⟨fun hc => ⟨_, min_found ha hb h1 fun t h3 h4 => by rw [hc t h3 h4, hch t h3 h4]⟩, fun hc hcan => hc fun t h3 h4 => ?_⟩
    obtain ⟨S', hS⟩ := min_late ha hb h1
    rw [hch t h3 h4]
    exact hcan.late hS t h3
  · refine ⟨min_up g k, ?_⟩
    by_cases hi : InfC zs
    · by_cases hj : InfC ys
      · refine .inr fun t x h => ?_
        unfold eMin at h
        cases h1 : eC zs p inc t with
        | none =>
          rw [h1] at h
          have h2 : eC ys q jnc t = some x := h
          have := early k hj h2
          have := eC_bd k h2
          unfold infV; omega
        | some y =>
          have := early g hi h1
          have := eC_bd g h1
          cases h2 : eC ys q jnc t with
          | none => rw [h1, h2] at h; cases h; unfold infV; omega
          | some z => have := eC_bd k h2; rw [h1, h2] at h; cases h; unfold infV; omega
      · have a2 := k.bd hj 400
        exact .inl ⟨400, Nat.le_refl _, atC ys q jnc 400, by unfold eMin; rw [eC_400 g hi (by omega), eC_fin hj]; rfl, by unfold infV; omega⟩
    by_cases hj : InfC ys
    · have a2 := g.bd hi 400
      exact .inl ⟨400, Nat.le_refl _, atC zs p inc 400, by unfold eMin; rw [eC_400 k hj (by omega), eC_fin hi]; rfl, by unfold infV; omega⟩
    have a1 := g.bd hi 400
    have a2 := k.bd hj 400
    exact .inl ⟨400, Nat.le_refl _, min (atC zs p inc 400) (atC ys q jnc 400), by unfold eMin; rw [eC_fin hi, eC_fin hj]; rfl, by unfold infV; omega⟩

/-! ### One curve -/

def omap (f : Int → Int) : Option Int → Option Int
  | none => none
  | some x => some (f x)

noncomputable def eScale (k : Int) (zs : List Int) (p : Nat) (inc : Int) (t : Nat) : Option Int := omap (fun x => k * x) (eC zs p inc t)
noncomputable def eLower (c : Int) (zs : List Int) (p : Nat) (inc : Int) (t : Nat) : Option Int := omap (fun x => max (x - c) 0) (eC zs p inc t)
theorem lower_val (g : Good zs p inc) {c : Int} {t : Nat} (ht : t ≤ 1048576) : enc (eLower c zs p inc t) = if atC zs p inc t = infV then infV else max (atC zs p inc t - c) 0 := by
  unfold eLower
  rcases eC_cases g ht with ⟨h1, h2⟩ | ⟨x, h1, h2, h3, h4⟩
  · rw [h1, h2, if_pos rfl]; rfl
  · rw [h1, h2, if_neg (by unfold infV; omega)]; rfl

theorem lower_settle (g : Good zs p inc) {c : Int} (hc0 : 0 ≤ c) (hc : c ≤ 1073741824) : Settling (encF (eLower c zs p inc)) p (growI zs p inc p) ∧ Tame (eLower c zs p inc) ∧ ∀ t, t ≤ 1000 → Mid (encF (eLower c zs p inc) t) := by
  have h1 := g.p1; have h2 := g.p2
  have hup : ∀ t, eLower c zs p inc t = none → eLower c zs p inc (t + 1) = none := fun t h => by
    unfold eLower at *
    cases h4 : eC zs p inc t with
    | none => rw [eC_up g h4]; rfl
    | some x => rw [h4] at h; cases h
  refine ⟨?_, ⟨hup, ?_⟩, fun t ht => ?_⟩
  · by_cases hi : InfC zs
    · rw [growI_inf hi]
      exact settling_inf fun t ht => by unfold encF eLower; rw [eC_400 g hi (by omega)]; rfl
    have hv : encF (eLower c zs p inc) = maxF (fun t => atC zs p inc t - c) (fun _ => 0) := funext fun t => by unfold encF eLower; rw [eC_fin hi]; rfl
    have hself : p / p * p = p := by rw [Nat.div_self (by omega), Nat.one_mul]
    have ha0 := g.perL hi hself
    obtain ⟨g1, g2⟩ := fin_low g hi h2
    rw [growI_fin hi, hv]
    generalize ((p / p : Nat) : Int) * inc = ca at *
    have ha : Per (fun t => atC zs p inc t - c) 400 p ca := fun t ht => by
      have := ha0 t ht
      show atC zs p inc (t + p) - c = atC zs p inc t - c + ca
      omega
    have hb : Per (fun _ => (0 : Int)) 400 p 0 := fun t ht => by show (0 : Int) = 0 + 0; omega
    have hca : max ca 0 = ca := by omega
    have hch : ∀ t, 400 ≤ t → t < 400 + p → plI (maxF (fun t => atC zs p inc t - c) (fun _ => 0) t) ca = maxF (fun t => atC zs p inc t - c) (fun _ => 0) t + max ca 0 := fun t h1 h2 => by
      have a1 := g2 t (by omega)
      rw [hca]
      exact plI_fin (by show ¬ max (atC zs p inc t - c) 0 = infV; unfold infV; omega) (by unfold infV; omega)
    refine ⟨fun hc => ⟨_, max_found ha hb h1 fun t h3 h4 => by rw [hc t h3 h4, hch t h3 h4]⟩, fun hc hcan => hc fun t h3 h4 => ?_⟩
    obtain ⟨S', hS⟩ := max_late ha hb h1
    rw [hch t h3 h4]
    exact hcan.late hS t h3
  · by_cases hi : InfC zs
    · refine .inr fun t x h => ?_
      unfold eLower at h
      rcases eC_inf g hi t with h4 | ⟨y, h4, _, h6, h7⟩
      · rw [h4] at h; cases h
      · rw [h4] at h; cases h; show ¬ max (y - c) 0 = infV; unfold infV; omega
    · refine .inl ⟨400, by omega, max (atC zs p inc 400 - c) 0, ?_, ?_⟩
      · unfold eLower; rw [eC_fin hi]; rfl
      · have := g.bd hi 400; unfold infV; omega
  · unfold encF; rw [lower_val g (by omega)]
    have := at_mid g ht
    split
    · exact .inl rfl
    · rename_i hne
      unfold Mid infV at *; omega

end

end Go.Proofs.Ytjipmkgnndldpaa

namespace Go.Proofs.Ytjipmkgnndldpaa

end Go.Proofs.Ytjipmkgnndldpaa

namespace Go.Proofs.Ytjipmkgnndldpaa

section
variable {zs ys : List Int} {p q most : Nat} {inc jnc : Int}

end

end Go.Proofs.Ytjipmkgnndldpaa

namespace Go.Proofs.Ytjipmkgnndldpaa

section
variable {zs ys : List Int} {p q most : Nat} {inc jnc k : Int}

theorem twice (zs : List Int) (p : Nat) (inc : Int) : eSum zs p inc zs p inc = eScale 2 zs p inc := by
  funext t
  unfold eSum eScale
  cases eC zs p inc t with
  | none => rfl
  | some x => show some (x + x) = some (2 * x); congr 1; omega

end

end Go.Proofs.Ytjipmkgnndldpaa

namespace Go.Proofs.Ytjipmkgnndldpaa

end Go.Proofs.Ytjipmkgnndldpaa

namespace Go.Proofs.Ytjipmkgnndldpaa

section
variable {zs : List Int} {p : Nat} {inc : Int}

end

end Go.Proofs.Ytjipmkgnndldpaa

namespace Go.Proofs.Ytjipmkgnndldpaa

theorem encF_some {E : Nat → Option Int} {t : Nat} {x : Int} (h : E t = some x) : encF E t = x := by unfold encF; rw [h]; rfl
theorem encF_none {E : Nat → Option Int} {t : Nat} (h : E t = none) : encF E t = infV := by unfold encF; rw [h]; rfl

/-! ## The same from some tick on: minima and maxima -/

/-- In the end periodic by 24 ticks, and infinite or not. -/
def Day (E : Nat → Option Int) : Prop := ∃ s c, Per (encF E) s 24 c ∧ ((∀ t, s ≤ t → E t = none) ∨ ∀ t, s ≤ t → E t = some (encF E t))

theorem Day.per {E : Nat → Option Int} (h : Day E) : ∃ s c, Per (encF E) s 24 c := by obtain ⟨s, c, h, _⟩ := h; exact ⟨s, c, h⟩

theorem Day.of {E : Nat → Option Int} (h : Day E) {zs : List Int} {p : Nat} {inc : Int} (he : ∀ t, eC zs p inc t = E t) : Day (eC zs p inc) := by rw [show eC zs p inc = E from funext he]; exact h

theorem day_none {E : Nat → Option Int} {s : Nat} (h : ∀ t, s ≤ t → E t = none) : Day E :=
  ⟨s, 0, fun t ht => by rw [encF_none (h t ht), encF_none (h (t + 24) (by omega))]; omega, .inl h⟩

theorem day_some {E : Nat → Option Int} {F : Nat → Int} {s : Nat} {c : Int} (h : ∀ t, s ≤ t → E t = some (F t)) (hp : Per F s 24 c) : Day E :=
  ⟨s, c, fun t ht => by rw [encF_some (h t ht), encF_some (h (t + 24) (by omega))]; exact hp t ht, .inr fun t ht => by rw [encF_some (h t ht)]; exact h t ht⟩

theorem Day.min {E E' : Nat → Option Int} (h : Day E) (k : Day E') : Day (fun t => omin (E t) (E' t)) := by
  obtain ⟨s, c, hp, hn | hs⟩ := h
  · obtain ⟨s', c', kp, kn | ks⟩ := k
    · exact day_none (s := max s s') fun t ht => by show omin (E t) (E' t) = none; rw [hn t (by omega), kn t (by omega)]; rfl
    · exact day_some (s := max s s') (F := encF E') (fun t ht => by show omin (E t) (E' t) = _; rw [hn t (by omega), ks t (by omega)]; rfl) (kp.mono (by omega))
  · obtain ⟨s', c', kp, kn | ks⟩ := k
    · exact day_some (s := max s s') (F := encF E) (fun t ht => by show omin (E t) (E' t) = _; rw [hs t (by omega), kn t (by omega)]; rfl) (hp.mono (by omega))
    · obtain ⟨S, hS⟩ := min_late (hp.mono (show s ≤ s + s' by omega)) (kp.mono (show s' ≤ s + s' by omega)) (show 1 ≤ 24 by omega)
      exact day_some (s := s + s' + S) (F := minF (encF E) (encF E')) (fun t ht => by
        show omin (E t) (E' t) = some (Min.min (encF E t) (encF E' t))
        have e1 := hs t (by omega)
        have e2 := ks t (by omega)
        rw [e1, e2]; rfl) (hS.mono (by omega))

theorem Day.max {E E' : Nat → Option Int} (h : Day E) (k : Day E') : Day (fun t => omax (E t) (E' t)) := by
  obtain ⟨s, c, hp, hn | hs⟩ := h
  · exact day_none (s := s) fun t ht => by show omax (E t) (E' t) = none; rw [hn t (by omega), omax_none_l]
  · obtain ⟨s', c', kp, kn | ks⟩ := k
    · exact day_none (s := s') fun t ht => by show omax (E t) (E' t) = none; rw [kn t (by omega), omax_none_r]
    · obtain ⟨S, hS⟩ := max_late (hp.mono (show s ≤ s + s' by omega)) (kp.mono (show s' ≤ s + s' by omega)) (show 1 ≤ 24 by omega)
      exact day_some (s := s + s' + S) (F := maxF (encF E) (encF E')) (fun t ht => by
        show omax (E t) (E' t) = some (Max.max (encF E t) (encF E' t))
        have e1 := hs t (by omega)
        have e2 := ks t (by omega)
        rw [e1, e2]; rfl) (hS.mono (by omega))

/-! ## What a reduction needs -/

/-! ## Greater curves have greater results -/

end Go.Proofs.Ytjipmkgnndldpaa

namespace Go.Proofs.Ytjipmkgnndldpaa

/-! ## Sums, minima and maxima distribute -/

end Go.Proofs.Ytjipmkgnndldpaa

namespace Go.Proofs.Ytjipmkgnndldpaa
set_option linter.unusedVariables false

/-! ## The greatest so far -/

section
variable {D D' : Nat → Option Int}
end

section
variable {d : Nat → Int} {S L : Nat} {δ : Int}
end

/-! ## The least from a tick on -/

section
variable {D D' : Nat → Option Int}
end

/-! ## The differences of two curves -/

section
variable {zs ys : List Int} {p q : Nat} {inc jnc : Int}
/-! ### The greatest so far -/

/-! ### The least from a tick on -/

end

end Go.Proofs.Ytjipmkgnndldpaa

namespace Go.Proofs.Ytjipmkgnndldpaa

/-- A function that is given like a curve, all finite. -/
structure RawC (zs : List Int) (p : Nat) (inc : Int) : Prop where
  few : zs.length ≤ 8192
  p1 : 1 ≤ p
  p2 : p ≤ 1024
  p3 : p ≤ zs.length
  i0 : 0 ≤ inc
  i1 : inc ≤ 35184372088832
  val : ∀ i, i < zs.length → 0 ≤ zs.getD i 0 ∧ zs.getD i 0 ≤ 2251799813685248

theorem RawC.fin {zs : List Int} {p : Nat} {inc : Int} (h : RawC zs p inc) : ¬ zs.getD (zs.length - 1) 0 = infV := by
  have h1 := h.p1; have h3 := h.p3
  have := h.val (zs.length - 1) (by omega)
  unfold infV; omega
theorem RawC.small {zs : List Int} {p : Nat} {inc : Int} (h : RawC zs p inc) {i : Nat} (hi : i < zs.length) : 0 ≤ zs.getD i 0 ∧ zs.getD i 0 ≤ 2251799813685248 := h.val i hi
theorem RawC.per {zs : List Int} {p : Nat} {inc : Int} (h : RawC zs p inc) : Per (atC zs p inc) (zs.length - p) p inc := atC_per h.p1 h.p3 h.fin
theorem RawC.bd {zs : List Int} {p : Nat} {inc : Int} (h : RawC zs p inc) (t : Nat) : 0 ≤ atC zs p inc t ∧ atC zs p inc t ≤ 2251799813685248 + 35184372088832 * ((t : Int) + 1) := by
  have h0 := h.i0
  have h1 := h.i1
  induction t using Nat.strongRecOn with
  | ind t ih =>
    have hp := h.p3; have hp1 := h.p1
    by_cases hlt : t < zs.length
    · rw [atC_lt hlt]; have := h.small hlt; omega
    · have e := h.per (t - p) (by omega)
      have := ih (t - p) (by omega)
      rw [show t - p + p = t by omega] at e
      omega

theorem raw_tame {zs : List Int} {p : Nat} {inc : Int} {E : Nat → Option Int} (h : RawC zs p inc) (hE : ∀ t, E t = some (atC zs p inc t)) : Tame E :=
  ⟨fun t hx => (by rw [hE] at hx; cases hx), .inl ⟨400, Nat.le_refl _, _, hE 400, by have := h.bd 400; unfold infV; omega⟩⟩

theorem raw_form {zs : List Int} {p : Nat} {inc : Int} {E : Nat → Option Int} (h : RawC zs p inc) (hE : ∀ t, E t = some (atC zs p inc t)) {s r : Nat} {c : Int} (hn : NormOf (atC zs p inc) s r c) :
    (Good (firsts (atC zs p inc) (s + r)) r c → EForm (firsts (atC zs p inc) (s + r)) r c E) ∧ (¬ Good (firsts (atC zs p inc) (s + r)) r c → ¬ ECan E) := by
  have hF : encF E = atC zs p inc := funext fun t => by unfold encF; rw [hE]; rfl
  refine ⟨fun g => eform_of (raw_tame h hE) (by rw [hF]; exact form_of hn g), fun hno hc => no_form hn hno ?_⟩
  have := hc.can
  rwa [hF] at this

theorem raw_inf {zs : List Int} {i : Nat} {E : Nat → Option Int} (hi : i < zs.length) (hz : zs.getD i 0 = infV) (hj : ∀ j, j < i → ¬ zs.getD j 0 = infV) (hE : ∀ t, E t = if t < i then some (zs.getD t 0) else none) :
    (Good (zs.take (i + 1)) 1 0 → EForm (zs.take (i + 1)) 1 0 E) ∧ (¬ Good (zs.take (i + 1)) 1 0 → ¬ ECan E) := by
  have hl : (zs.take (i + 1)).length = i + 1 := by rw [List.length_take]; omega
  have hlast : InfC (zs.take (i + 1)) := by rw [infC_iff, hl, Nat.add_sub_cancel, getD_take (by omega)]; exact hz
  constructor
  · intro g
    have hN : NormC (zs.take (i + 1)) 1 0 (zs.take (i + 1)) 1 0 := .inr ⟨i, by omega, by rw [getD_take (by omega)]; exact hz, fun j h => by rw [getD_take (by omega)]; exact hj j h, by rw [List.take_take, Nat.min_self], rfl, rfl⟩
    have hf := hN.eform g
    rw [show eC (zs.take (i + 1)) 1 0 = E from funext fun t => ?_] at hf
    · exact hf
    rw [hE]
    by_cases ht : t < i
    · rw [if_pos ht]
      unfold eC
      have e : atC (zs.take (i + 1)) 1 0 t = zs.getD t 0 := by rw [atC_lt (by omega), getD_take (by omega)]
      rw [e, if_neg (fun hx => hj t ht hx.2)]
    · rw [if_neg ht]
      exact eC_late g hlast (by omega)
  · rintro hno ⟨xs, q, j, g, he⟩
    have h0 : eC xs q j i = none := by rw [he, hE, if_neg (Nat.lt_irrefl _)]
    obtain ⟨hx, ha⟩ := eC_none.1 h0
    have hlow : ∀ t, t < i → atC xs q j t = zs.getD t 0 := fun t ht => by
      have h1 : eC xs q j t = some (zs.getD t 0) := by rw [he, hE, if_pos ht]
      exact (eC_bd g h1).2.2
    have h1 := g.p1; have h3 := g.p3
    have hlen : i < xs.length := by
      refine Nat.lt_of_not_le fun hle => ?_
      have e := hlow (xs.length - 1) (by omega)
      rw [atC_inf hx (Nat.le_refl _) (by omega)] at e
      exact hj _ (by omega) e.symm
    have htk : xs.take (i + 1) = zs.take (i + 1) := list_ext_getD (by rw [hl, List.length_take]; omega) fun k hk => by
      rw [List.length_take] at hk
      rw [getD_take (by omega), getD_take (by omega)]
      by_cases hki : k < i
      · rw [← hlow k hki, atC_lt (by omega)]
      · rw [show k = i by omega, hz, ← ha, atC_lt hlen]
    have hN : NormC xs q j (zs.take (i + 1)) 1 0 := .inr ⟨i, hlen, by rw [← atC_lt (p := q) (inc := j) hlen]; exact ha, fun k hk => by rw [← atC_lt (p := q) (inc := j) (show k < xs.length by omega), hlow k hk]; exact hj k hk, htk.symm, rfl, rfl⟩
    exact hno (hN.good g)

/-- What is handed to Made: the values up to a tick from which on they grow in each period, or up to an infinite one. -/
def RawE (zs : List Int) (p : Nat) (inc : Int) (E : Nat → Option Int) : Prop :=
  (RawC zs p inc ∧ ∀ t, E t = some (atC zs p inc t)) ∨
  (zs.length ≤ 8192 ∧ ∃ i, i < zs.length ∧ zs.getD i 0 = infV ∧ (∀ j, j < i → ¬ zs.getD j 0 = infV) ∧ ∀ t, E t = if t < i then some (zs.getD t 0) else none)

theorem rawE_of {E : Nat → Option Int} {N L : Nat} {inc : Int} (hN : N ≤ 8192) (h1 : 1 ≤ L) (h2 : L ≤ 1024) (h3 : L ≤ N) (hi : 0 ≤ inc ∧ inc ≤ 35184372088832)
    (up : ∀ t, E t = none → E (t + 1) = none) (bd : ∀ t, t < N → ∀ x, E t = some x → 0 ≤ x ∧ x ≤ 2251799813685248)
    (fin : (∀ t, ¬ E t = none) → Per (encF E) (N - L) L inc) (inf : (∃ t, E t = none) → ∃ t, t < N ∧ E t = none) : RawE (firsts (encF E) N) L inc E := by
  have hl := firsts_length (encF E) N
  by_cases h : ∃ t, E t = none
  · obtain ⟨i, hz, hj⟩ := least_ex h
    obtain ⟨u, hu, hu0⟩ := inf h
    have hiN : i < N := by
      refine Nat.lt_of_not_le fun hle => ?_
      exact hj u (by omega) hu0
    refine .inr ⟨by omega, i, by omega, ?_, fun j hji hx => ?_, fun t => ?_⟩
    · rw [firsts_getD _ _ _ hiN]; unfold encF; rw [hz]; rfl
    · rw [firsts_getD _ _ _ (by omega)] at hx
      cases hE : E j with
      | none => exact hj j hji hE
      | some x => unfold encF at hx; rw [hE] at hx; have := bd j (by omega) x hE; change x = infV at hx; unfold infV at hx; omega
    · by_cases ht : t < i
      · rw [if_pos ht, firsts_getD _ _ _ (by omega)]
        cases hE : E t with
        | none => exact absurd hE (hj t ht)
        | some x => unfold encF; rw [hE]; rfl
      · rw [if_neg ht]
        have := stays up hz (t - i)
        rwa [show i + (t - i) = t by omega] at this
  · have hs : ∀ t, ¬ E t = none := fun t hx => h ⟨t, hx⟩
    have hv : ∀ t, E t = some (encF E t) := fun t => by
      cases hE : E t with
      | none => exact absurd hE (hs t)
      | some x => unfold encF; rw [hE]; rfl
    have hr : RawC (firsts (encF E) N) L inc := ⟨by omega, h1, h2, by omega, hi.1, hi.2, fun i hi => by
      rw [hl] at hi
      rw [firsts_getD _ _ _ hi]
      exact bd i hi _ (hv i)⟩
    refine .inl ⟨hr, fun t => ?_⟩
    rw [hv]
    congr 1
    have hp := hr.per
    rw [hl] at hp
    exact ((fin hs).ext hp h1 fun t ht => by rw [atC_lt (by omega), firsts_getD _ _ _ (by omega)]) t


section
variable {zs ys : List Int} {p q : Nat} {inc jnc : Int}

theorem inf_none (g : Good zs p inc) (h : ∃ t, eC zs p inc t = none) : eC zs p inc (zs.length - 1) = none := by
  obtain ⟨t, ht⟩ := h
  exact eC_late g (eC_none.1 ht).1 (Nat.le_refl _)

theorem fin_of (g : Good zs p inc) (h : ∀ t, ¬ eC zs p inc t = none) : ¬ InfC zs := fun hi => h _ (eC_late g hi (Nat.le_refl _))

end

end Go.Proofs.Ytjipmkgnndldpaa

namespace Go.Proofs.Ytjipmkgnndldpaa

section
variable {zs ys : List Int} {p q : Nat} {inc jnc : Int}

/-! ## Sums -/

theorem enc_sum (h1 : ¬ InfC zs) (h2 : ¬ InfC ys) (t : Nat) : encF (eSum zs p inc ys q jnc) t = atC zs p inc t + atC ys q jnc t := by
  refine encF_some ?_
  unfold eSum; rw [eC_fin h1, eC_fin h2]; rfl

theorem grow_bd (g : Good zs p inc) {L : Nat} (hL2 : L ≤ 120) : 0 ≤ inc * ((L / p : Nat) : Int) ∧ inc * ((L / p : Nat) : Int) ≤ 128849018880 := by
  have h0 := g.i0; have h1 := g.i1
  have h2 : L / p ≤ 120 := Nat.le_trans (Nat.div_le_self _ _) hL2
  generalize L / p = m at h2 ⊢
  have : inc * (m : Int) ≤ 1073741824 * 120 := Int.mul_le_mul h1 (by omega) (by omega) (by omega)
  exact ⟨Int.mul_nonneg h0 (by omega), by omega⟩

theorem Good.perM (g : Good zs p inc) (hf : ¬ InfC zs) {L m : Nat} (hL : L / p * p = L) (hm : zs.length - p ≤ m) : Per (atC zs p inc) m L (inc * ((L / p : Nat) : Int)) := by
  have h := (g.per hf).mul (L / p)
  rw [hL, Int.mul_comm] at h
  exact h.mono hm

theorem sum_raw (g : Good zs p inc) (k : Good ys q jnc) {L : Nat} (hL : Lcm p q L) (hL2 : L ≤ 120) {m : Nat} (h1 : zs.length ≤ m) (h2 : ys.length ≤ m) (hm : m ≤ 400) :
    RawE (firsts (encF (eSum zs p inc ys q jnc)) (m + L)) L (inc * ((L / p : Nat) : Int) + jnc * ((L / q : Nat) : Int)) (eSum zs p inc ys q jnc) := by
  have b1 := grow_bd g hL2
  have b2 := grow_bd k hL2
  have a1 := hL.one
  have g1 := g.p1; have g3 := g.p3; have k1 := k.p1; have k3 := k.p3
  have no1 : ∀ t, eC zs p inc t = none → eSum zs p inc ys q jnc t = none := fun t h => by unfold eSum; rw [h, oadd_none_l]
  have no2 : ∀ t, eC ys q jnc t = none → eSum zs p inc ys q jnc t = none := fun t h => by unfold eSum; rw [h, oadd_none_r]
  refine rawE_of (by omega) a1 (by omega) (by omega) (by omega) (sum_up g k) (fun t ht x hx => ?_) (fun hs => ?_) (fun h => ?_)
  · obtain ⟨y, z, hy, hz, rfl⟩ := both_some hx
    have c1 := eC_bd g hy
    have c2 := eC_bd k hz
    omega
  · have f1 : ¬ InfC zs := fin_of g fun t h => hs t (no1 t h)
    have f2 : ¬ InfC ys := fin_of k fun t h => hs t (no2 t h)
    intro t ht
    have e1 := g.perM f1 hL.dp (m := m) (by omega) t (by omega)
    have e2 := k.perM f2 hL.dq (m := m) (by omega) t (by omega)
    rw [enc_sum f1 f2, enc_sum f1 f2]
    omega
  · obtain ⟨t, ht⟩ := h
    cases hz : eC zs p inc t with
    | none => exact ⟨zs.length - 1, by omega, no1 _ (inf_none g ⟨t, hz⟩)⟩
    | some y =>
      cases hy : eC ys q jnc t with
      | none => exact ⟨ys.length - 1, by omega, no2 _ (inf_none k ⟨t, hy⟩)⟩
      | some z => unfold eSum at ht; rw [hz, hy] at ht; cases ht

/-! ## The lesser and the greater of two -/

/-- Where a curve is below one that grows less, the lesser and the greater one of them are no curves. -/
theorem over {a b : Nat → Int} {L : Nat} {ca cb : Int} (ha : Per a 400 L ca) (hb : Per b 400 L cb) (hL : 1 ≤ L) {u : Nat} (hu : 400 ≤ u) (hne : a u < b u) (hlt : cb < ca) : ¬ CanBe (minF a b) ∧ ¬ CanBe (maxF a b) := by
  have hd : Per (fun t => b t - a t) 400 L (cb - ca) := fun t ht => by have := ha t ht; have := hb t ht; show b (t + L) - a (t + L) = b t - a t + (cb - ca); omega
  obtain ⟨S, _, hf⟩ := falls hd hL (by omega)
  have hS : S ≤ S * L := Nat.le_mul_of_pos_right _ hL
  have e1 := ha.mul S u hu
  have e2 := hb.mul S u hu
  have e3 : b (u + S * L) - a (u + S * L) ≤ 0 := hf (u + S * L) (by omega)
  constructor
  · intro hc
    obtain ⟨S', hm⟩ := min_late ha hb hL
    have h := (hc.late hm).mul S u hu
    rw [show min ca cb = cb by omega] at h
    unfold minF at h
    omega
  · intro hc
    obtain ⟨S', hm⟩ := max_late ha hb hL
    have h := (hc.late hm).mul S u hu
    rw [show max ca cb = ca by omega] at h
    unfold maxF at h
    omega

theorem minF_comm (a b : Nat → Int) : minF a b = minF b a := funext fun t => by unfold minF; omega
theorem maxF_comm (a b : Nat → Int) : maxF a b = maxF b a := funext fun t => by unfold maxF; omega

theorem enc_min (h1 : ¬ InfC zs) (h2 : ¬ InfC ys) : encF (eMin zs p inc ys q jnc) = minF (atC zs p inc) (atC ys q jnc) := funext fun t => by
  refine encF_some ?_
  unfold eMin minF; rw [eC_fin h1, eC_fin h2]; rfl
theorem enc_max (h1 : ¬ InfC zs) (h2 : ¬ InfC ys) : encF (eMax zs p inc ys q jnc) = maxF (atC zs p inc) (atC ys q jnc) := funext fun t => by
  refine encF_some ?_
  unfold eMax maxF; rw [eC_fin h1, eC_fin h2]; rfl

/-- The document's test, behind tick 400, of whether the steeper curve has passed the other one. -/
def Passed (a b : Nat → Int) (L : Nat) (d : Int) : Prop := ∀ t, 400 ≤ t → t < 400 + L → ¬ (d < 0 ∧ 0 < a t - b t ∨ 0 < d ∧ a t - b t < 0)

theorem passed_per {a b : Nat → Int} {L : Nat} {ca cb : Int} (ha : Per a 400 L ca) (hb : Per b 400 L cb) (hL : 1 ≤ L) (h : Passed a b L (ca - cb)) :
    Per (minF a b) 400 L (if 0 < ca - cb then cb else ca) ∧ Per (maxF a b) 400 L (if 0 < ca - cb then ca else cb) := by
  have e1 : (if 0 < ca - cb then cb else ca) = min ca cb := by split <;> omega
  have e2 : (if 0 < ca - cb then ca else cb) = max ca cb := by split <;> omega
  rw [e1, e2]
  refine ⟨min_found ha hb hL fun t h1 h2 => ?_, max_found ha hb hL fun t h1 h2 => ?_⟩
  · have := h t h1 h2
    have := ha t h1
    have := hb t h1
    unfold minF; omega
  · have := h t h1 h2
    have := ha t h1
    have := hb t h1
    unfold maxF; omega

theorem not_passed {a b : Nat → Int} {L : Nat} {ca cb : Int} (ha : Per a 400 L ca) (hb : Per b 400 L cb) (hL : 1 ≤ L) {u : Nat} (h1 : 400 ≤ u) (h : ca - cb < 0 ∧ 0 < a u - b u ∨ 0 < ca - cb ∧ a u - b u < 0) : ¬ CanBe (minF a b) ∧ ¬ CanBe (maxF a b) := by
  rcases h with ⟨h2, h3⟩ | ⟨h2, h3⟩
  · have := over hb ha hL h1 (by omega) (by omega)
    rwa [minF_comm, maxF_comm] at this
  · exact over ha hb hL h1 (by omega) (by omega)

/-- The increment that the document gives the lesser one. -/
noncomputable def incMin (zs : List Int) (p : Nat) (inc : Int) (ys : List Int) (q : Nat) (jnc : Int) (L : Nat) : Int :=
  open Classical in if InfC zs then jnc * ((L / q : Nat) : Int) else if InfC ys then inc * ((L / p : Nat) : Int) else if 0 < inc * ((L / p : Nat) : Int) - jnc * ((L / q : Nat) : Int) then jnc * ((L / q : Nat) : Int) else inc * ((L / p : Nat) : Int)
noncomputable def incMax (zs : List Int) (p : Nat) (inc : Int) (ys : List Int) (q : Nat) (jnc : Int) (L : Nat) : Int :=
  open Classical in if InfC zs then jnc * ((L / q : Nat) : Int) else if InfC ys then inc * ((L / p : Nat) : Int) else if 0 < inc * ((L / p : Nat) : Int) - jnc * ((L / q : Nat) : Int) then inc * ((L / p : Nat) : Int) else jnc * ((L / q : Nat) : Int)

theorem inc_bd (g : Good zs p inc) (k : Good ys q jnc) {L : Nat} (hL2 : L ≤ 120) : (0 ≤ incMin zs p inc ys q jnc L ∧ incMin zs p inc ys q jnc L ≤ 128849018880) ∧ 0 ≤ incMax zs p inc ys q jnc L ∧ incMax zs p inc ys q jnc L ≤ 128849018880 := by
  have b1 := grow_bd g hL2
  have b2 := grow_bd k hL2
  unfold incMin incMax
  constructor <;> (split; · exact b2) <;> (split; · exact b1) <;> split <;> assumption

theorem minE_bd (g : Good zs p inc) (k : Good ys q jnc) {t : Nat} {x : Int} (h : eMin zs p inc ys q jnc t = some x) : 0 ≤ x ∧ x ≤ 1073741824 * ((t : Int) + 1) := by
  unfold eMin at h
  cases h1 : eC zs p inc t with
  | none => rw [h1] at h; have := eC_bd k h; omega
  | some y =>
    have b1 := eC_bd g h1
    cases h2 : eC ys q jnc t with
    | none => rw [h1, h2] at h; cases h; omega
    | some z =>
      have b2 := eC_bd k h2
      rw [h1, h2] at h; cases h; omega

theorem min_raw (g : Good zs p inc) (k : Good ys q jnc) {L : Nat} (hL : Lcm p q L) (hL2 : L ≤ 120) (hd : ¬ InfC zs → ¬ InfC ys → Passed (atC zs p inc) (atC ys q jnc) L (inc * ((L / p : Nat) : Int) - jnc * ((L / q : Nat) : Int))) :
    RawE (firsts (encF (eMin zs p inc ys q jnc)) (400 + L)) L (incMin zs p inc ys q jnc L) (eMin zs p inc ys q jnc) := by
  have b0 := (inc_bd g k hL2).1
  have a1 := hL.one
  have g1 := g.p1; have g3 := g.p3; have gf := g.few; have k1 := k.p1; have k3 := k.p3; have kf := k.few
  refine rawE_of (by omega) a1 (by omega) (by omega) (by omega) (min_up g k) (fun t ht x hx => by have := minE_bd g k hx; omega) (fun hs => ?_) (fun h => ?_)
  · rw [Nat.add_sub_cancel]
    unfold incMin
    by_cases f1 : InfC zs
    · rw [if_pos f1]
      have f2 : ¬ InfC ys := fun f2 => hs 400 (by unfold eMin; rw [eC_400 g f1 (by omega), eC_400 k f2 (by omega)]; rfl)
      have e : ∀ t, 400 ≤ t → encF (eMin zs p inc ys q jnc) t = atC ys q jnc t := fun t ht => encF_some (by unfold eMin; rw [eC_400 g f1 (by omega), eC_fin f2]; rfl)
      intro t ht
      rw [e t ht, e (t + L) (by omega)]
      exact k.perM f2 hL.dq (m := 400) (by omega) t ht
    · rw [if_neg f1]
      by_cases f2 : InfC ys
      · rw [if_pos f2]
        have e : ∀ t, 400 ≤ t → encF (eMin zs p inc ys q jnc) t = atC zs p inc t := fun t ht => encF_some (by unfold eMin; rw [eC_400 k f2 (by omega), eC_fin f1]; rfl)
        intro t ht
        rw [e t ht, e (t + L) (by omega)]
        exact g.perM f1 hL.dp (m := 400) (by omega) t ht
      · rw [if_neg f2, enc_min f1 f2]
        exact (passed_per (g.perM f1 hL.dp (by omega)) (k.perM f2 hL.dq (by omega)) a1 (hd f1 f2)).1
  · obtain ⟨t, ht⟩ := h
    have h1 : eC zs p inc t = none ∧ eC ys q jnc t = none := by
      unfold eMin at ht
      cases h1 : eC zs p inc t with
      | none => rw [h1] at ht; exact ⟨rfl, ht⟩
      | some y =>
        rw [h1] at ht
        cases h2 : eC ys q jnc t with
        | none => rw [h2] at ht; cases ht
        | some z => rw [h2] at ht; cases ht
    exact ⟨399, by omega, by unfold eMin; rw [eC_400 g (eC_none.1 h1.1).1 (Nat.le_refl _), eC_400 k (eC_none.1 h1.2).1 (Nat.le_refl _)]; rfl⟩

theorem max_raw (g : Good zs p inc) (k : Good ys q jnc) {L : Nat} (hL : Lcm p q L) (hL2 : L ≤ 120) (hd : ¬ InfC zs → ¬ InfC ys → Passed (atC zs p inc) (atC ys q jnc) L (inc * ((L / p : Nat) : Int) - jnc * ((L / q : Nat) : Int))) :
    RawE (firsts (encF (eMax zs p inc ys q jnc)) (400 + L)) L (incMax zs p inc ys q jnc L) (eMax zs p inc ys q jnc) := by
  have b0 := (inc_bd g k hL2).2
  have a1 := hL.one
  have g1 := g.p1; have g3 := g.p3; have gf := g.few; have k1 := k.p1; have k3 := k.p3; have kf := k.few
  have no1 : ∀ t, eC zs p inc t = none → eMax zs p inc ys q jnc t = none := fun t h => by unfold eMax; rw [h, omax_none_l]
  have no2 : ∀ t, eC ys q jnc t = none → eMax zs p inc ys q jnc t = none := fun t h => by unfold eMax; rw [h, omax_none_r]
  refine rawE_of (by omega) a1 (by omega) (by omega) (by omega) (max_up g k) (fun t ht x hx => ?_) (fun hs => ?_) (fun h => ?_)
  · obtain ⟨y, z, hy, hz, rfl⟩ := both_some_max hx
    have c1 := eC_bd g hy
    have c2 := eC_bd k hz
    omega
  · rw [Nat.add_sub_cancel]
    have f1 : ¬ InfC zs := fin_of g fun t h => hs t (no1 t h)
    have f2 : ¬ InfC ys := fin_of k fun t h => hs t (no2 t h)
    unfold incMax
    rw [if_neg f1, if_neg f2, enc_max f1 f2]
    exact (passed_per (g.perM f1 hL.dp (by omega)) (k.perM f2 hL.dq (by omega)) a1 (hd f1 f2)).2
  · obtain ⟨t, ht⟩ := h
    cases hz : eC zs p inc t with
    | none => exact ⟨zs.length - 1, by omega, no1 _ (inf_none g ⟨t, hz⟩)⟩
    | some y =>
      cases hy : eC ys q jnc t with
      | none => exact ⟨ys.length - 1, by omega, no2 _ (inf_none k ⟨t, hy⟩)⟩
      | some z => unfold eMax at ht; rw [hz, hy] at ht; cases ht

theorem ext_no (g : Good zs p inc) (k : Good ys q jnc) {L : Nat} (hL : Lcm p q L) (f1 : ¬ InfC zs) (f2 : ¬ InfC ys) {u : Nat} (h1 : 400 ≤ u) (h : inc * ((L / p : Nat) : Int) - jnc * ((L / q : Nat) : Int) < 0 ∧ 0 < atC zs p inc u - atC ys q jnc u ∨ 0 < inc * ((L / p : Nat) : Int) - jnc * ((L / q : Nat) : Int) ∧ atC zs p inc u - atC ys q jnc u < 0) :
    ¬ ECan (eMin zs p inc ys q jnc) ∧ ¬ ECan (eMax zs p inc ys q jnc) := by
  have gf := g.few; have kf := k.few
  obtain ⟨n1, n2⟩ := not_passed (g.perM f1 hL.dp (m := 400) (by omega)) (k.perM f2 hL.dq (m := 400) (by omega)) hL.one h1 h
  exact ⟨fun hc => n1 (by have := hc.can; rwa [enc_min f1 f2] at this), fun hc => n2 (by have := hc.can; rwa [enc_max f1 f2] at this)⟩

/-! ## One curve -/

end

end Go.Proofs.Ytjipmkgnndldpaa
