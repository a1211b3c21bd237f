/- The mathematics of curves that are made from their values: whether there is such a curve, and which. An infinite value is none. Nothing here speaks of the program. By the verifier's side. -/
import Derived.Test.YtjjaaknjdmijbaaQeCurMCurNOrdM
namespace Go.Proofs.Ytjjaaknjdmijbaa

/-! ## The least period and start of a function -/

theorem normOf_ex {f : Nat → Int} {s P : Nat} {c : Int} (h : Per f s P c) (hP : 1 ≤ P) : ∃ s' p c', NormOf f s' p c' := by
  obtain ⟨p, ⟨h1, s1, c1, hp⟩, hl⟩ := least_ex (P := fun q => 1 ≤ q ∧ ∃ s c, Per f s q c) ⟨P, hP, s, c, h⟩
  obtain ⟨s2, h2, hs⟩ := least_ex (P := fun s => Per f s p c1) ⟨s1, hp⟩
  refine ⟨s2, p, c1, h2, h1, fun q hq hlt s' c' hk => hl q hlt ⟨hq, s', c', hk⟩, ?_⟩
  rcases Nat.eq_zero_or_pos s2 with h0 | hpos
  · exact .inl h0
  · refine .inr fun he => hs (s2 - 1) (by omega) fun t ht => ?_
    by_cases hlt : t = s2 - 1
    · rw [hlt]; exact he
    · exact h2 t (by omega)

theorem NormOf.start_le {f : Nat → Int} {s p s' P : Nat} {c I : Int} (h : NormOf f s p c) (k : Per f s' P I) (hP : 1 ≤ P) : s ≤ s' := by
  rcases h.start with h0 | hn
  · omega
  · exact Nat.le_of_not_lt fun hlt => hn ((k.any hP h.per) (s - 1) (by omega))

theorem NormOf.per_le {f : Nat → Int} {s p s' P : Nat} {c I : Int} (h : NormOf f s p c) (k : Per f s' P I) (hP : 1 ≤ P) : p ≤ P :=
  Nat.le_of_not_lt fun hlt => h.least P hP hlt _ _ k

theorem Good.perAny {zs : List Int} {p : Nat} {inc : Int} (g : Good zs p inc) : Per (atC zs p inc) (zs.length - p) p inc := by
  by_cases hi : zs.getD (zs.length - 1) 0 = infV
  · have h3 := g.p3
    obtain ⟨rfl, rfl⟩ := g.tailI hi
    intro t ht
    rw [atC_inf hi (by omega) (by omega), atC_inf hi (by omega) (by omega)]; omega
  · exact g.per hi

/-- A curve in normal form with the values F. -/
def Form (zs : List Int) (p : Nat) (inc : Int) (F : Nat → Int) : Prop :=
  Good zs p inc ∧ (∀ t, atC zs p inc t = F t) ∧ ∃ s, zs.length = s + p ∧ NormOf F s p inc

def CanBe (F : Nat → Int) : Prop := ∃ zs p inc, Good zs p inc ∧ ∀ t, atC zs p inc t = F t

theorem Form.unique {zs ys : List Int} {p q : Nat} {inc jnc : Int} {F : Nat → Int} (h : Form zs p inc F) (k : Form ys q jnc F) : zs = ys ∧ p = q ∧ inc = jnc := by
  obtain ⟨g, hv, s, hs, hn⟩ := h
  obtain ⟨g', kv, s', ks, kn⟩ := k
  obtain ⟨rfl, rfl, rfl⟩ := hn.unique kn
  refine ⟨list_ext_getD (by omega) fun i hi => ?_, rfl, rfl⟩
  rw [← atC_lt (p := p) (inc := inc) hi, ← atC_lt (zs := ys) (p := p) (inc := inc) (by omega), hv, kv]

theorem Good.form {ys : List Int} {q : Nat} {j : Int} (g : Good ys q j) {F : Nat → Int} (he : ∀ t, atC ys q j t = F t) {s p : Nat} {c : Int} (hn : NormOf F s p c) :
    s + p ≤ ys.length ∧ p ≤ q ∧ NormC ys q j (firsts F (s + p)) p c ∧ Form (firsts F (s + p)) p c F := by
  have hpe : Per F (ys.length - q) q j := fun t ht => by rw [← he, ← he]; exact g.perAny t ht
  have hs := hn.start_le hpe g.p1
  have hp := hn.per_le hpe g.p1
  have h3 := g.p3
  have h1 := g.p1
  have hp1 := hn.pos
  have htk : firsts F (s + p) = ys.take (s + p) := list_ext_getD (by rw [firsts_length, List.length_take]; omega) fun i hi => by
    rw [firsts_length] at hi
    rw [firsts_getD _ _ _ hi, getD_take hi, ← he, atC_lt (by omega)]
  have hN : NormC ys q j (firsts F (s + p)) p c := by
    rw [htk]
    by_cases hi : ys.getD (ys.length - 1) 0 = infV
    · obtain ⟨rfl, rfl⟩ := g.tailI hi
      obtain rfl : p = 1 := by omega
      have hc : c = 0 := (hn.per.mono hs).same hpe
      subst hc
      have hF : ∀ k, F (s + k) = F s := fun k => by
        induction k with
        | zero => rfl
        | succ k ih => have := hn.per (s + k) (by omega); rw [show s + (k + 1) = s + k + 1 by omega]; omega
      have hFs : F s = infV := by
        have := hF (ys.length - 1 - s)
        rw [show s + (ys.length - 1 - s) = ys.length - 1 by omega, ← he, atC_lt (by omega), hi] at this
        exact this.symm
      refine .inr ⟨s, by omega, by rw [← atC_lt (p := 1) (inc := 0) (show s < ys.length by omega), he]; exact hFs, fun k hk hx => ?_, rfl, rfl, rfl⟩
      rcases hn.start with h0 | hne
      · omega
      · have a1 := g.le (show k ≤ s - 1 by omega) (by omega)
        have a2 := g.val (s - 1) (by omega)
        have a3 := he (s - 1)
        rw [atC_lt (by omega)] at a3
        apply hne
        rw [show s - 1 + 1 = s by omega, hFs, ← a3]
        unfold infV at *; omega
    · exact .inl ⟨hi, s, by rw [show atC ys q j = F from funext he]; exact hn, rfl, by omega, hp⟩
  have hv := hN.values g
  exact ⟨by omega, hp, hN, hN.good g, fun t => (hv t).trans (he t), s, firsts_length _ _, hn⟩

theorem CanBe.form {F : Nat → Int} (h : CanBe F) : ∃ zs p inc, Form zs p inc F := by
  obtain ⟨ys, q, j, g, he⟩ := h
  have hpe : Per F (ys.length - q) q j := fun t ht => by rw [← he, ← he]; exact g.perAny t ht
  obtain ⟨s, p, c, hn⟩ := normOf_ex hpe g.p1
  exact ⟨_, _, _, (g.form he hn).2.2.2⟩

theorem CanBe.per {F : Nat → Int} (h : CanBe F) : ∃ s p c, s ≤ 399 ∧ 1 ≤ p ∧ Per F s p c := by
  obtain ⟨ys, q, j, g, he⟩ := h
  have h1 := g.few; have h2 := g.p1; have h3 := g.p3
  exact ⟨ys.length - q, q, j, by omega, h2, fun t ht => by rw [← he, ← he]; exact g.perAny t ht⟩

/-! ## Values that may be infinite -/

def enc : Option Int → Int
  | none => infV
  | some x => x

open Classical in
noncomputable def eC (zs : List Int) (p : Nat) (inc : Int) (t : Nat) : Option Int :=
  if InfC zs ∧ atC zs p inc t = infV then none else some (atC zs p inc t)

theorem enc_eC (zs : List Int) (p : Nat) (inc : Int) (t : Nat) : enc (eC zs p inc t) = atC zs p inc t := by
  unfold eC
  split
  · rename_i h; exact h.2.symm
  · rfl

theorem eC_fin {zs : List Int} (h : ¬ InfC zs) (p : Nat) (inc : Int) (t : Nat) : eC zs p inc t = some (atC zs p inc t) := by
  unfold eC; rw [if_neg (fun hx => h hx.1)]

theorem eC_none {zs : List Int} {p : Nat} {inc : Int} {t : Nat} : eC zs p inc t = none ↔ InfC zs ∧ atC zs p inc t = infV := by
  unfold eC
  split
  · rename_i h; exact ⟨fun _ => h, fun _ => rfl⟩
  · rename_i h; exact ⟨(fun hx => by cases hx), fun hx => absurd hx h⟩

/-- In an infinite curve each value is none or small. -/
theorem eC_inf {zs : List Int} {p : Nat} {inc : Int} (g : Good zs p inc) (hi : InfC zs) (t : Nat) : eC zs p inc t = none ∨ ∃ x, eC zs p inc t = some x ∧ atC zs p inc t = x ∧ 0 ≤ x ∧ x ≤ 1073741824 := by
  rcases g.inf_small hi t with h | h
  · exact .inl (eC_none.2 ⟨hi, h⟩)
  · refine .inr ⟨_, ?_, rfl, h.1, h.2⟩
    unfold eC; rw [if_neg]
    intro hx; have := hx.2; unfold infV at this; omega

theorem eC_late {zs : List Int} {p : Nat} {inc : Int} (g : Good zs p inc) (hi : InfC zs) {t : Nat} (ht : zs.length - 1 ≤ t) : eC zs p inc t = none := by
  have h1 := g.p1; have h3 := g.p3
  exact eC_none.2 ⟨hi, atC_inf hi ht (by omega)⟩

theorem eC_up {zs : List Int} {p : Nat} {inc : Int} (g : Good zs p inc) {t : Nat} (h : eC zs p inc t = none) : eC zs p inc (t + 1) = none := by
  obtain ⟨hi, ha⟩ := eC_none.1 h
  refine eC_none.2 ⟨hi, ?_⟩
  have h1 := g.step t
  rcases g.inf_small hi (t + 1) with h2 | h2
  · exact h2
  · rw [ha] at h1; unfold infV at h1; omega

theorem eC_bd {zs : List Int} {p : Nat} {inc : Int} (g : Good zs p inc) {t : Nat} {x : Int} (h : eC zs p inc t = some x) : 0 ≤ x ∧ x ≤ 1073741824 * ((t : Int) + 1) ∧ atC zs p inc t = x := by
  by_cases hi : InfC zs
  · rcases eC_inf g hi t with h2 | ⟨y, h2, h3, h4, h5⟩
    · rw [h2] at h; cases h
    · rw [h2] at h; cases h; omega
  · rw [eC_fin hi] at h; cases h
    have := g.bd hi t
    omega

/-- What the values of a curve that is to be made keep to: what is infinite stays so, and is told from what is finite. -/
def Tame (E : Nat → Option Int) : Prop :=
  (∀ t, E t = none → E (t + 1) = none) ∧ ((∃ u, 400 ≤ u ∧ ∃ y, E u = some y ∧ ¬ y = infV) ∨ (∀ t x, E t = some x → ¬ x = infV))

/-- A curve in normal form with these values. -/
def EForm (zs : List Int) (p : Nat) (inc : Int) (E : Nat → Option Int) : Prop :=
  Good zs p inc ∧ (∀ t, eC zs p inc t = E t) ∧ ∃ s, zs.length = s + p ∧ NormOf (atC zs p inc) s p inc

def ECan (E : Nat → Option Int) : Prop := ∃ zs p inc, Good zs p inc ∧ ∀ t, eC zs p inc t = E t

def encF (E : Nat → Option Int) (t : Nat) : Int := enc (E t)

theorem stays {E : Nat → Option Int} (h : ∀ t, E t = none → E (t + 1) = none) {t : Nat} (h0 : E t = none) (k : Nat) : E (t + k) = none := by
  induction k with
  | zero => exact h0
  | succ k ih => exact h (t + k) ih

theorem ECan.can {E : Nat → Option Int} (h : ECan E) : CanBe (encF E) := by
  obtain ⟨zs, p, inc, g, he⟩ := h
  exact ⟨zs, p, inc, g, fun t => by rw [← enc_eC, he]; rfl⟩

theorem EForm.form {zs : List Int} {p : Nat} {inc : Int} {E : Nat → Option Int} (h : EForm zs p inc E) : Form zs p inc (encF E) := by
  obtain ⟨g, he, s, hs, hn⟩ := h
  have hv : ∀ t, atC zs p inc t = encF E t := fun t => by rw [← enc_eC, he]; rfl
  exact ⟨g, hv, s, hs, by rw [← show atC zs p inc = encF E from funext hv]; exact hn⟩

theorem EForm.unique {zs ys : List Int} {p q : Nat} {inc jnc : Int} {E : Nat → Option Int} (h : EForm zs p inc E) (k : EForm ys q jnc E) : zs = ys ∧ p = q ∧ inc = jnc :=
  h.form.unique k.form

theorem EForm.can {zs : List Int} {p : Nat} {inc : Int} {E : Nat → Option Int} (h : EForm zs p inc E) : ECan E := ⟨zs, p, inc, h.1, h.2.1⟩

/-- The normal form of a valid curve. -/
theorem NormC.eform {zs zs' : List Int} {p p' : Nat} {inc inc' : Int} (g : Good zs p inc) (h : NormC zs p inc zs' p' inc') : EForm zs' p' inc' (eC zs p inc) := by
  have hv := h.values g
  have g' := h.good g
  have hfin := h.fin_iff g
  have he : ∀ t, eC zs' p' inc' t = eC zs p inc t := fun t => by
    have e : InfC zs' ↔ InfC zs := hfin
    unfold eC
    rw [hv t]
    by_cases hi : InfC zs
    · have hi' := e.2 hi
      by_cases ha : atC zs p inc t = infV
      · rw [if_pos ⟨hi', ha⟩, if_pos ⟨hi, ha⟩]
      · rw [if_neg (fun hx => ha hx.2), if_neg (fun hx => ha hx.2)]
    · rw [if_neg (fun hx => hi (e.1 hx.1)), if_neg (fun hx => hi hx.1)]
  refine ⟨g', he, ?_⟩
  rw [show atC zs' p' inc' = atC zs p inc from funext hv]
  obtain ⟨s, p2, c2, hn⟩ := normOf_ex g.perAny g.p1
  obtain ⟨_, _, hN, hF⟩ := g.form (fun _ => rfl) hn
  obtain ⟨rfl, rfl, rfl⟩ := h.canon g g hN (fun _ => rfl)
  exact ⟨s, firsts_length _ _, hn⟩

/-! ## Curves from their values -/

theorem good_fin {F : Nat → Int} {s p : Nat} {c : Int} (hp : Per F s p c) (h1 : 1 ≤ p) (h2 : p ≤ 120) (h3 : s + p ≤ 400) (h0 : 0 ≤ F 0) (hm : ∀ t, t < s + p → F t ≤ F (t + 1)) (hb : F (s + p - 1) ≤ 1073741824) (hc : c ≤ 1073741824) :
    Good (firsts F (s + p)) p c ∧ (¬ InfC (firsts F (s + p))) ∧ ∀ t, atC (firsts F (s + p)) p c t = F t := by
  have hl := firsts_length F (s + p)
  have up : ∀ k i, i + k ≤ s + p → F i ≤ F (i + k) := fun k => by
    induction k with
    | zero => intro i _; exact Int.le_refl _
    | succ k ih => intro i hi; have a := ih i (by omega); have b := hm (i + k) (by omega); rw [show i + (k + 1) = i + k + 1 by omega]; omega
  have lo : ∀ i, i ≤ s + p → 0 ≤ F i := fun i hi => by have := up i 0 (by omega); rw [Nat.zero_add] at this; omega
  have hi' : ∀ i, i < s + p → F i ≤ 1073741824 := fun i hi => by have := up (s + p - 1 - i) i (by omega); rw [show i + (s + p - 1 - i) = s + p - 1 by omega] at this; omega
  have hlast : ¬ InfC (firsts F (s + p)) := by
    rw [infC_iff, hl, firsts_getD _ _ _ (by omega)]; unfold infV; omega
  have hc0 : F (s + p) = F s + c := hp s (Nat.le_refl _)
  have hup := up p s (by omega)
  have g : Good (firsts F (s + p)) p c := by
    refine ⟨by omega, h1, h2, by omega, by omega, hc, fun i hi => ?_, fun i hi => ?_, fun hx => absurd hx hlast, fun _ => ?_⟩
    · rw [hl] at hi; rw [firsts_getD _ _ _ hi]; exact .inl ⟨lo i (by omega), hi' i hi⟩
    · rw [hl] at hi; rw [firsts_getD _ _ _ (by omega), firsts_getD _ _ _ hi]; exact hm i (by omega)
    · rw [hl, firsts_getD _ _ _ (by omega), firsts_getD _ _ _ (by omega), show s + p - p = s by omega]
      have := hm (s + p - 1) (by omega)
      rw [show s + p - 1 + 1 = s + p by omega] at this
      omega
  refine ⟨g, hlast, ?_⟩
  have hper := g.per hlast
  rw [hl, show s + p - p = s by omega] at hper
  exact hper.ext hp h1 fun t ht => by rw [atC_lt (by omega), firsts_getD _ _ _ ht]

/-- There is a curve with these values, all finite. -/
theorem can_fin {E : Nat → Option Int} {F : Nat → Int} (hE : ∀ t, E t = some (F t)) {s p : Nat} {c : Int} (hp : Per F s p c) (h1 : 1 ≤ p) (h2 : p ≤ 120) (h3 : s + p ≤ 400) (h0 : 0 ≤ F 0) (hm : ∀ t, t < s + p → F t ≤ F (t + 1)) (hb : F (s + p - 1) ≤ 1073741824) (hc : c ≤ 1073741824) : ECan E := by
  obtain ⟨g, hf, hv⟩ := good_fin hp h1 h2 h3 h0 hm hb hc
  exact ⟨_, _, _, g, fun t => by rw [eC_fin hf, hv, hE]⟩

/-- There is a curve with these values, which are infinite from i on. -/
theorem can_inf {E : Nat → Option Int} {F : Nat → Int} {i : Nat} (hi : i ≤ 399) (hE : ∀ t, t < i → E t = some (F t)) (hN : ∀ t, i ≤ t → E t = none) (hb : ∀ t, t < i → 0 ≤ F t ∧ F t ≤ 1073741824) (hm : ∀ t, t + 1 < i → F t ≤ F (t + 1)) : ECan E := by
  have hl : (firsts F i ++ [infV]).length = i + 1 := by simp [firsts_length]
  have hlt : ∀ j, j < i → (firsts F i ++ [infV]).getD j 0 = F j := fun j hj => by
    rw [getD_append_lt (by rw [firsts_length]; exact hj), firsts_getD _ _ _ hj]
  have hat : (firsts F i ++ [infV]).getD i 0 = infV := by
    have := getD_append_eq (zs := firsts F i) (v := infV)
    rwa [firsts_length] at this
  have hlast : InfC (firsts F i ++ [infV]) := by rw [infC_iff, hl, Nat.add_sub_cancel, hat]
  have g : Good (firsts F i ++ [infV]) 1 0 := by
    refine ⟨by omega, by omega, by omega, by omega, by omega, by omega, fun j hj => ?_, fun j hj => ?_, fun _ => ⟨rfl, rfl⟩, fun hx => absurd hlast hx⟩
    · by_cases he : j = i
      · subst he; exact .inr hat
      · rw [hlt j (by omega)]; exact .inl (hb j (by omega))
    · by_cases he : j + 1 = i
      · rw [he, hat, hlt j (by omega)]; have := hb j (by omega); unfold infV; omega
      · rw [hlt j (by omega), hlt (j + 1) (by omega)]; exact hm j (by omega)
  refine ⟨_, _, _, g, fun t => ?_⟩
  by_cases ht : t < i
  · rw [hE t ht]
    unfold eC
    rw [if_neg, atC_lt (by omega), hlt t ht]
    rintro ⟨_, hx⟩
    rw [atC_lt (by omega), hlt t ht] at hx
    have := hb t ht
    unfold infV at hx; omega
  · rw [hN t (by omega)]
    exact eC_none.2 ⟨hlast, atC_inf hlast (by omega) (by omega)⟩

/-! ## The greater and the lesser of two functions -/

def maxF (a b : Nat → Int) (t : Nat) : Int := max (a t) (b t)
def minF (a b : Nat → Int) (t : Nat) : Int := min (a t) (b t)

theorem bound_ex (d : Nat → Int) (S : Nat) : ∀ L, ∃ K : Nat, ∀ r, r < L → d (S + r) ≤ K
  | 0 => ⟨0, fun r hr => absurd hr (Nat.not_lt_zero _)⟩
  | L + 1 => by
    obtain ⟨K, hK⟩ := bound_ex d S L
    refine ⟨K + (d (S + L)).toNat, fun r hr => ?_⟩
    by_cases he : r = L
    · subst he; omega
    · have := hK r (by omega); omega

/-- What falls from period to period is below 0 in the end. -/
theorem falls {d : Nat → Int} {S L : Nat} {c : Int} (h : Per d S L c) (hL : 1 ≤ L) (hc : c < 0) : ∃ S', S ≤ S' ∧ ∀ t, S' ≤ t → d t ≤ 0 := by
  obtain ⟨K, hK⟩ := bound_ex d S L
  refine ⟨S + (K + 1) * L, by omega, fun t ht => ?_⟩
  obtain ⟨r, j, hr, rfl⟩ := tick_split (S := S) hL (show S ≤ t by omega)
  have hj : K ≤ j := by
    refine Nat.le_of_not_lt fun hlt => ?_
    have h1 : j * L + L ≤ K * L := by
      have := Nat.mul_le_mul_right L (show j + 1 ≤ K by omega)
      rwa [Nat.succ_mul] at this
    rw [Nat.succ_mul] at ht
    omega
  rw [h.to r j]
  have h1 := hK r hr
  have h2 : (j : Int) * c ≤ (j : Int) * (-1) := Int.mul_le_mul_of_nonneg_left (by omega) (by omega)
  omega

theorem max_late {a b : Nat → Int} {S L : Nat} {ca cb : Int} (ha : Per a S L ca) (hb : Per b S L cb) (hL : 1 ≤ L) : ∃ S', Per (maxF a b) S' L (max ca cb) := by
  have hd : Per (fun t => a t - b t) S L (ca - cb) := fun t ht => by have := ha t ht; have := hb t ht; show a (t + L) - b (t + L) = a t - b t + (ca - cb); omega
  have hd' : Per (fun t => b t - a t) S L (cb - ca) := fun t ht => by have := ha t ht; have := hb t ht; show b (t + L) - a (t + L) = b t - a t + (cb - ca); omega
  rcases Int.lt_trichotomy ca cb with h | h | h
  · obtain ⟨S', hS, hf⟩ := falls hd hL (by omega)
    refine ⟨S', fun t ht => ?_⟩
    have e1 : a t - b t ≤ 0 := hf t ht
    have e2 : a (t + L) - b (t + L) ≤ 0 := hf (t + L) (by omega)
    have e3 := hb t (by omega)
    unfold maxF; omega
  · refine ⟨S, fun t ht => ?_⟩
    have e1 := ha t ht
    have e2 := hb t ht
    unfold maxF; omega
  · obtain ⟨S', hS, hf⟩ := falls hd' hL (by omega)
    refine ⟨S', fun t ht => ?_⟩
    have e1 : b t - a t ≤ 0 := hf t ht
    have e2 : b (t + L) - a (t + L) ≤ 0 := hf (t + L) (by omega)
    have e3 := ha t (by omega)
    unfold maxF; omega

theorem min_late {a b : Nat → Int} {S L : Nat} {ca cb : Int} (ha : Per a S L ca) (hb : Per b S L cb) (hL : 1 ≤ L) : ∃ S', Per (minF a b) S' L (min ca cb) := by
  have hd : Per (fun t => a t - b t) S L (ca - cb) := fun t ht => by have := ha t ht; have := hb t ht; show a (t + L) - b (t + L) = a t - b t + (ca - cb); omega
  have hd' : Per (fun t => b t - a t) S L (cb - ca) := fun t ht => by have := ha t ht; have := hb t ht; show b (t + L) - a (t + L) = b t - a t + (cb - ca); omega
  rcases Int.lt_trichotomy ca cb with h | h | h
  · obtain ⟨S', hS, hf⟩ := falls hd hL (by omega)
    refine ⟨S', fun t ht => ?_⟩
    have e1 : a t - b t ≤ 0 := hf t ht
    have e2 : a (t + L) - b (t + L) ≤ 0 := hf (t + L) (by omega)
    have e3 := ha t (by omega)
    unfold minF; omega
  · refine ⟨S, fun t ht => ?_⟩
    have e1 := ha t ht
    have e2 := hb t ht
    unfold minF; omega
  · obtain ⟨S', hS, hf⟩ := falls hd' hL (by omega)
    refine ⟨S', fun t ht => ?_⟩
    have e1 : b t - a t ≤ 0 := hf t ht
    have e2 : b (t + L) - a (t + L) ≤ 0 := hf (t + L) (by omega)
    have e3 := hb t (by omega)
    unfold minF; omega

/-- If a function grows by G in the end, and is a curve's, then it does so in each period behind tick 400. -/
theorem CanBe.late {F : Nat → Int} (h : CanBe F) {S L : Nat} {G : Int} (k : Per F S L G) : Per F 400 L G := by
  obtain ⟨s, p, c, hs, hp, hk⟩ := h.per
  exact (hk.any hp k).mono (by omega)

end Go.Proofs.Ytjjaaknjdmijbaa

namespace Go.Proofs.Ytjjaaknjdmijbaa

def oadd : Option Int → Option Int → Option Int
  | some x, some y => some (x + y)
  | _, _ => none
def omin : Option Int → Option Int → Option Int
  | none, y => y
  | some x, none => some x
  | some x, some y => some (min x y)
def omax : Option Int → Option Int → Option Int
  | some x, some y => some (max x y)
  | _, _ => none
theorem oadd_none_l (y : Option Int) : oadd none y = none := by cases y <;> rfl
theorem omax_none_l (y : Option Int) : omax none y = none := by cases y <;> rfl
theorem omax_none_r (x : Option Int) : omax x none = none := by cases x <;> rfl
/-- How much a curve grows in L ticks in the long run. -/
noncomputable def growI (zs : List Int) (p : Nat) (inc : Int) (L : Nat) : Int :=
  open Classical in if InfC zs then infV else ((L / p : Nat) : Int) * inc
theorem growI_inf {zs : List Int} (h : InfC zs) (p : Nat) (inc : Int) (L : Nat) : growI zs p inc L = infV := by unfold growI; rw [if_pos h]
theorem growI_fin {zs : List Int} (h : ¬ InfC zs) (p : Nat) (inc : Int) (L : Nat) : growI zs p inc L = ((L / p : Nat) : Int) * inc := by unfold growI; rw [if_neg h]

/-- A number that is infinite or small. -/
def Mid (x : Int) : Prop := x = infV ∨ (0 ≤ x ∧ x ≤ 1125899906842624)

section
variable {zs ys : List Int} {p q : Nat} {inc jnc : Int}

theorem grow_mid (g : Good zs p inc) {L : Nat} (hL : L ≤ 120) : Mid (growI zs p inc L) := by
  by_cases hi : InfC zs
  · rw [growI_inf hi]; exact .inl rfl
  · rw [growI_fin hi]
    have h0 := g.i0; have h1 := g.i1
    have h2 : L / p ≤ 120 := Nat.le_trans (Nat.div_le_self _ _) hL
    refine .inr ⟨Int.mul_nonneg (Int.natCast_nonneg _) h0, ?_⟩
    have : ((L / p : Nat) : Int) * inc ≤ 120 * 1073741824 := Int.mul_le_mul (by omega) h1 h0 (by omega)
    omega

/-- The value of a curve at a tick that is not late, and the value with infinity. -/
theorem eC_cases (g : Good zs p inc) {t : Nat} (_ht : t ≤ 1048576) : (eC zs p inc t = none ∧ atC zs p inc t = infV) ∨ (∃ x, eC zs p inc t = some x ∧ atC zs p inc t = x ∧ 0 ≤ x ∧ x ≤ 1073741824 * ((t : Int) + 1)) := by
  cases h : eC zs p inc t with
  | none => exact .inl ⟨rfl, (eC_none.1 h).2⟩
  | some x => have := eC_bd g h; exact .inr ⟨x, rfl, this.2.2, this.1, this.2.1⟩

theorem eC_400 (g : Good zs p inc) (hi : InfC zs) {t : Nat} (ht : 399 ≤ t) : eC zs p inc t = none := eC_late g hi (by have := g.few; omega)

/-! ### Sum -/

theorem grow_low (g : Good zs p inc) {L : Nat} (hL : L ≤ 120) : growI zs p inc L = infV ∨ (0 ≤ growI zs p inc L ∧ growI zs p inc L ≤ 1099511627776) := by
  by_cases hi : InfC zs
  · exact .inl (growI_inf hi p inc L)
  · rw [growI_fin hi]
    have h0 := g.i0; have h1 := g.i1
    have h2 : L / p ≤ 120 := Nat.le_trans (Nat.div_le_self _ _) hL
    refine .inr ⟨Int.mul_nonneg (Int.natCast_nonneg _) h0, ?_⟩
    have : ((L / p : Nat) : Int) * inc ≤ 120 * 1073741824 := Int.mul_le_mul (by omega) h1 h0 (by omega)
    omega

/-- Of a finite curve the growth and the early values are small. -/
theorem fin_low (g : Good zs p inc) (hf : ¬ InfC zs) {L : Nat} (hL : L ≤ 120) : (0 ≤ ((L / p : Nat) : Int) * inc ∧ ((L / p : Nat) : Int) * inc ≤ 1099511627776) ∧ ∀ t, t ≤ 1000 → 0 ≤ atC zs p inc t ∧ atC zs p inc t ≤ 1099511627776 := by
  refine ⟨?_, fun t ht => ?_⟩
  · have := grow_low g hL
    rw [growI_fin hf] at this
    rcases this with h | h
    · exfalso
      have h0 := g.i0; have h1 := g.i1
      have h2 : L / p ≤ 120 := Nat.le_trans (Nat.div_le_self _ _) hL
      have : ((L / p : Nat) : Int) * inc ≤ 120 * 1073741824 := Int.mul_le_mul (by omega) h1 h0 (by omega)
      unfold infV at h; omega
    · exact h
  · have := g.bd hf t
    omega

theorem tame_400 {E : Nat → Option Int} (hu : ∀ t, E t = none → E (t + 1) = none) {y : Int} (h : E 400 = some y) (hy : y ≤ 1125899906842624) : Tame E :=
  ⟨hu, .inl ⟨400, Nat.le_refl _, y, h, by unfold infV; omega⟩⟩

/-- Of an infinite sum or maximum the finite values are small. -/
theorem both_some {a b : Option Int} {x : Int} (h : oadd a b = some x) : ∃ y z, a = some y ∧ b = some z ∧ x = y + z := by
  cases a with
  | none => rw [oadd_none_l] at h; cases h
  | some y =>
    cases b with
    | none => cases h
    | some z => exact ⟨y, z, rfl, rfl, by cases h; rfl⟩
/-- In a sum or maximum with an infinite curve the ticks with a finite value are early. -/
theorem early (g : Good zs p inc) (hi : InfC zs) {t : Nat} {y : Int} (h : eC zs p inc t = some y) : t ≤ 399 := by
  refine Nat.le_of_not_lt fun hlt => ?_
  rw [eC_400 g hi (by omega)] at h; cases h

/-! ### One curve -/

/-- What is asked of a function that is periodic from a start on. -/
structure FromOk (E : Nat → Option Int) (s P : Nat) : Prop where
  mid : ∀ t, t < s + 2 * P → 0 ≤ encF E t ∧ encF E t ≤ infV
  per : ∃ c, Per (encF E) s P c
  tame : Tame E

end

end Go.Proofs.Ytjjaaknjdmijbaa

namespace Go.Proofs.Ytjjaaknjdmijbaa

end Go.Proofs.Ytjjaaknjdmijbaa

namespace Go.Proofs.Ytjjaaknjdmijbaa

theorem can_of_inf {E : Nat → Option Int} (hu : ∀ t, E t = none → E (t + 1) = none) (hex : E 399 = none) (hb : ∀ t x, t ≤ 399 → E t = some x → 0 ≤ x ∧ x ≤ 1073741824) (hm : ∀ t x y, E t = some x → E (t + 1) = some y → x ≤ y) : ECan E := by
  obtain ⟨i, hi, hl⟩ := least_ex (P := fun t => E t = none) ⟨399, hex⟩
  have hi9 : i ≤ 399 := Nat.le_of_not_lt fun h => hl 399 h hex
  have hs : ∀ t, t < i → E t = some (encF E t) := fun t ht => by
    unfold encF
    cases h : E t with
    | none => exact absurd h (hl t ht)
    | some x => rfl
  refine can_inf (F := encF E) hi9 hs (fun t ht => ?_) (fun t ht => hb t _ (by omega) (hs t ht)) (fun t ht => hm t _ _ (hs t (by omega)) (hs (t + 1) ht))
  rw [show t = i + (t - i) by omega]
  exact stays hu hi _

section
variable {zs ys : List Int} {p q most : Nat} {inc jnc : Int}

theorem eC_mono (g : Good zs p inc) {t : Nat} {x y : Int} (h : eC zs p inc t = some x) (k : eC zs p inc (t + 1) = some y) : x ≤ y := by
  have h1 := (eC_bd g h).2.2
  have h2 := (eC_bd g k).2.2
  have := g.step t
  omega

end

end Go.Proofs.Ytjjaaknjdmijbaa

namespace Go.Proofs.Ytjjaaknjdmijbaa

section
variable {zs ys : List Int} {p q most : Nat} {inc jnc k : Int}

end

end Go.Proofs.Ytjjaaknjdmijbaa

namespace Go.Proofs.Ytjjaaknjdmijbaa

/-- At most, where none is the greatest. -/
def ole (a b : Option Int) : Prop := ∀ y, b = some y → ∃ x, a = some x ∧ x ≤ y

theorem ole_refl (a : Option Int) : ole a a := fun y h => ⟨y, h, Int.le_refl _⟩
theorem ole_none (a : Option Int) : ole a none := fun y h => by cases h
theorem ole_some {x y : Int} (h : x ≤ y) : ole (some x) (some y) := fun z hz => by cases hz; exact ⟨x, rfl, h⟩
theorem ole_trans {a b c : Option Int} (h : ole a b) (k : ole b c) : ole a c := fun z hz => by
  obtain ⟨y, hy, h1⟩ := k z hz
  obtain ⟨x, hx, h2⟩ := h y hy
  exact ⟨x, hx, by omega⟩
end Go.Proofs.Ytjjaaknjdmijbaa

namespace Go.Proofs.Ytjjaaknjdmijbaa

section
variable {zs : List Int} {p : Nat} {inc : Int}

/-- Short and small. -/
structure Mild (zs : List Int) (p : Nat) (inc : Int) : Prop where
  good : Good zs p inc
  len : zs.length ≤ 100
  bd : ∀ t x, t ≤ 400 → eC zs p inc t = some x → x ≤ 100000

theorem Mild.at (m : Mild zs p inc) (hf : ¬ InfC zs) {t : Nat} (ht : t ≤ 400) : 0 ≤ atC zs p inc t ∧ atC zs p inc t ≤ 100000 := ⟨(m.good.bd hf t).1, m.bd t _ ht (eC_fin hf p inc t)⟩

end

end Go.Proofs.Ytjjaaknjdmijbaa

namespace Go.Proofs.Ytjjaaknjdmijbaa

/-- From tick 16 on periodic by 24 ticks (or infinite), not decreasing, small up to tick 400. -/
structure Nice (K : Int) (E : Nat → Option Int) : Prop where
  up : ∀ t, E t = none → E (t + 1) = none
  mono : ∀ t x y, E t = some x → E (t + 1) = some y → x ≤ y
  bd : ∀ t x, t ≤ 400 → E t = some x → 0 ≤ x ∧ x ≤ K
  tail : (∀ t, 16 ≤ t → E t = none) ∨ ((∀ t, E t = some (encF E t)) ∧ ∃ c, Per (encF E) 16 24 c)

theorem encF_some {E : Nat → Option Int} {t : Nat} {x : Int} (h : E t = some x) : encF E t = x := by unfold encF; rw [h]; rfl
theorem encF_none {E : Nat → Option Int} {t : Nat} (h : E t = none) : encF E t = infV := by unfold encF; rw [h]; rfl

theorem Nice.can {K : Int} {E : Nat → Option Int} (h : Nice K E) (hK : K ≤ 1000000000) : ECan E := by
  rcases h.tail with hn | ⟨hs, c, hp⟩
  · exact can_of_inf h.up (hn 399 (by omega)) (fun t x ht hx => by have := h.bd t x (by omega) hx; omega) h.mono
  · have b : ∀ t, t ≤ 400 → 0 ≤ encF E t ∧ encF E t ≤ K := fun t ht => h.bd t _ ht (hs t)
    refine can_fin hs hp (by omega) (by omega) (by omega) (b 0 (by omega)).1 (fun t _ => h.mono t _ _ (hs t) (hs (t + 1))) ?_ ?_
    · have := b (16 + 24 - 1) (by omega); omega
    · have e := hp 16 (by omega)
      have := b 16 (by omega)
      have := b (16 + 24) (by omega)
      omega

theorem Nice.per {K : Int} {E : Nat → Option Int} (h : Nice K E) : ∃ c, Per (encF E) 16 24 c := by
  rcases h.tail with hn | ⟨_, h⟩
  · exact ⟨0, fun t ht => by rw [encF_none (hn t ht), encF_none (hn (t + 24) (by omega))]; omega⟩
  · exact h

/-- The normal form of such a function is short, and its period divides 24. -/
theorem Nice.short {K : Int} {E : Nat → Option Int} (h : Nice K E) {zs : List Int} {p : Nat} {inc : Int} (f : EForm zs p inc E) : zs.length ≤ 40 ∧ 24 % p = 0 ∧ p ≤ 24 := by
  obtain ⟨c, hp⟩ := h.per
  obtain ⟨_, _, s, hs, hn⟩ := f.form
  have a1 := hn.start_le hp (by omega)
  have a2 := hn.per_le hp (by omega)
  have a3 := (hn.divides hp).1
  exact ⟨by omega, a3, a2⟩

/-- What is the curve of such a function has such values. -/
theorem Nice.of {K : Int} {E : Nat → Option Int} (h : Nice K E) {zs : List Int} {p : Nat} {inc : Int} (he : ∀ t, eC zs p inc t = E t) : Nice K (eC zs p inc) := by
  rw [show eC zs p inc = E from funext he]; exact h

theorem Nice.le {K K' : Int} {E : Nat → Option Int} (h : Nice K E) (hK : K ≤ K') : Nice K' E := ⟨h.up, h.mono, fun t x ht hx => by have := h.bd t x ht hx; omega, h.tail⟩

/-- The normal form's period divides 24 if from some tick on 24 is a period. -/
theorem NormC.div24 {zs zs' : List Int} {p p' : Nat} {inc inc' : Int} (g : Good zs p inc) (h : NormC zs p inc zs' p' inc') {s : Nat} {c : Int} (hp : Per (encF (eC zs p inc)) s 24 c) : 24 % p' = 0 := by
  obtain ⟨_, _, _, _, hn⟩ := (h.eform g).form
  exact (hn.divides hp).1

/-- The least common multiple of two divisors of 24 is one. -/
theorem lcm24 {a b : Nat} (ha : 24 % a = 0) (hb : 24 % b = 0) : 24 % (a / Nat.gcd a b * b) = 0 := by
  have e : a / Nat.gcd a b * b = Nat.lcm a b := by
    rw [Nat.lcm, Nat.mul_div_right_comm (Nat.gcd_dvd_left a b)]
  rw [e]
  exact Nat.mod_eq_zero_of_dvd (Nat.lcm_dvd (Nat.dvd_of_mod_eq_zero ha) (Nat.dvd_of_mod_eq_zero hb))

/-! ## The same from some tick on: minima and maxima -/

/-- In the end periodic by 24 ticks, and infinite or not. -/
def Day (E : Nat → Option Int) : Prop := ∃ s c, Per (encF E) s 24 c ∧ ((∀ t, s ≤ t → E t = none) ∨ ∀ t, s ≤ t → E t = some (encF E t))

theorem Day.per {E : Nat → Option Int} (h : Day E) : ∃ s c, Per (encF E) s 24 c := by obtain ⟨s, c, h, _⟩ := h; exact ⟨s, c, h⟩

theorem Day.of {E : Nat → Option Int} (h : Day E) {zs : List Int} {p : Nat} {inc : Int} (he : ∀ t, eC zs p inc t = E t) : Day (eC zs p inc) := by rw [show eC zs p inc = E from funext he]; exact h

theorem day_none {E : Nat → Option Int} {s : Nat} (h : ∀ t, s ≤ t → E t = none) : Day E :=
  ⟨s, 0, fun t ht => by rw [encF_none (h t ht), encF_none (h (t + 24) (by omega))]; omega, .inl h⟩

theorem day_some {E : Nat → Option Int} {F : Nat → Int} {s : Nat} {c : Int} (h : ∀ t, s ≤ t → E t = some (F t)) (hp : Per F s 24 c) : Day E :=
  ⟨s, c, fun t ht => by rw [encF_some (h t ht), encF_some (h (t + 24) (by omega))]; exact hp t ht, .inr fun t ht => by rw [encF_some (h t ht)]; exact h t ht⟩

theorem Day.min {E E' : Nat → Option Int} (h : Day E) (k : Day E') : Day (fun t => omin (E t) (E' t)) := by
  obtain ⟨s, c, hp, hn | hs⟩ := h
  · obtain ⟨s', c', kp, kn | ks⟩ := k
    · exact day_none (s := max s s') fun t ht => by show omin (E t) (E' t) = none; rw [hn t (by omega), kn t (by omega)]; rfl
    · exact day_some (s := max s s') (F := encF E') (fun t ht => by show omin (E t) (E' t) = _; rw [hn t (by omega), ks t (by omega)]; rfl) (kp.mono (by omega))
  · obtain ⟨s', c', kp, kn | ks⟩ := k
    · exact day_some (s := max s s') (F := encF E) (fun t ht => by show omin (E t) (E' t) = _; rw [hs t (by omega), kn t (by omega)]; rfl) (hp.mono (by omega))
    · obtain ⟨S, hS⟩ := min_late (hp.mono (show s ≤ s + s' by omega)) (kp.mono (show s' ≤ s + s' by omega)) (show 1 ≤ 24 by omega)
      exact day_some (s := s + s' + S) (F := minF (encF E) (encF E')) (fun t ht => by
        show omin (E t) (E' t) = some (Min.min (encF E t) (encF E' t))
        have e1 := hs t (by omega)
        have e2 := ks t (by omega)
        rw [e1, e2]; rfl) (hS.mono (by omega))

theorem Day.max {E E' : Nat → Option Int} (h : Day E) (k : Day E') : Day (fun t => omax (E t) (E' t)) := by
  obtain ⟨s, c, hp, hn | hs⟩ := h
  · exact day_none (s := s) fun t ht => by show omax (E t) (E' t) = none; rw [hn t (by omega), omax_none_l]
  · obtain ⟨s', c', kp, kn | ks⟩ := k
    · exact day_none (s := s') fun t ht => by show omax (E t) (E' t) = none; rw [kn t (by omega), omax_none_r]
    · obtain ⟨S, hS⟩ := max_late (hp.mono (show s ≤ s + s' by omega)) (kp.mono (show s' ≤ s + s' by omega)) (show 1 ≤ 24 by omega)
      exact day_some (s := s + s' + S) (F := maxF (encF E) (encF E')) (fun t ht => by
        show omax (E t) (E' t) = some (Max.max (encF E t) (encF E' t))
        have e1 := hs t (by omega)
        have e2 := ks t (by omega)
        rw [e1, e2]; rfl) (hS.mono (by omega))

/-- The periods of the normal forms of two such curves have a multiple of at most 24. -/
theorem day_lcm {z1 z2 : List Int} {p1 p2 : Nat} {i1 i2 : Int} (g1 : Good z1 p1 i1) (g2 : Good z2 p2 i2) (h1 : Day (eC z1 p1 i1)) (h2 : Day (eC z2 p2 i2)) {y1 y2 : List Int} {q1 q2 : Nat} {j1 j2 : Int} (n1 : NormC z1 p1 i1 y1 q1 j1) (n2 : NormC z2 p2 i2 y2 q2 j2) : q1 / Nat.gcd q1 q2 * q2 ≤ 24 := by
  obtain ⟨s1, c1, k1⟩ := h1.per
  obtain ⟨s2, c2, k2⟩ := h2.per
  have a := n1.div24 g1 k1
  have b := n2.div24 g2 k2
  have := lcm24 a b
  exact Nat.le_of_dvd (by omega) (Nat.dvd_of_mod_eq_zero this)

/-! ## What a reduction needs -/

/-- Constant from tick 16 on, or at least 20 from tick 250 on. -/
def Low (E : Nat → Option Int) : Prop := Per (encF E) 16 24 0 ∨ ∀ t x, 250 ≤ t → E t = some x → 20 ≤ x

theorem Low.form {E : Nat → Option Int} (h : Low E) {zs : List Int} {p : Nat} {inc : Int} (f : EForm zs p inc E) (hf : ¬ InfC zs) : inc = 0 ∨ ∀ t, 250 ≤ t → 20 ≤ atC zs p inc t := by
  rcases h with h | h
  · obtain ⟨_, _, s, _, hn⟩ := f.form
    obtain ⟨h1, h2⟩ := hn.divides h
    have hp := hn.pos
    have h3 : p ≤ 24 := hn.per_le h (by omega)
    have h4 : 1 ≤ 24 / p := (Nat.one_le_div_iff (by omega)).2 h3
    rcases Int.mul_eq_zero.1 h2.symm with h5 | h5
    · omega
    · exact .inl h5
  · refine .inr fun t ht => h t _ ht ?_
    rw [← f.2.1 t, eC_fin hf]

/-! ## Greater curves have greater results -/

end Go.Proofs.Ytjjaaknjdmijbaa

namespace Go.Proofs.Ytjjaaknjdmijbaa

/-! ## Sums, minima and maxima distribute -/

end Go.Proofs.Ytjjaaknjdmijbaa

namespace Go.Proofs.Ytjjaaknjdmijbaa
set_option linter.unusedVariables false

theorem ole_anti {a b : Option Int} (h : ole a b) (k : ole b a) : a = b := by
  cases b with
  | some y =>
    obtain ⟨x, rfl, hx⟩ := h y rfl
    obtain ⟨z, hz, hy⟩ := k x rfl
    cases hz
    congr 1; omega
  | none =>
    cases a with
    | none => rfl
    | some x => obtain ⟨z, hz, _⟩ := k x rfl; cases hz
theorem ole_of_enc {a b : Option Int} (hb : ∀ y, b = some y → y < infV) (h : enc a ≤ enc b) : ole a b := by
  intro y hy
  have := hb y hy
  subst hy
  cases a with
  | none => change infV ≤ y at h; omega
  | some x => exact ⟨x, rfl, h⟩

/-! ## The greatest so far -/

section
variable {D D' : Nat → Option Int}
end

section
variable {d : Nat → Int} {S L : Nat} {δ : Int}
end

/-! ## The least from a tick on -/

def IsLow (D : Nat → Option Int) (t : Nat) (v : Option Int) : Prop := (∃ s, t ≤ s ∧ D s = v) ∧ ∀ s, t ≤ s → ole v (D s)
theorem IsLow.unique {D : Nat → Option Int} {t : Nat} {u v : Option Int} (h : IsLow D t u) (k : IsLow D t v) : u = v := by
  obtain ⟨⟨s, hs, rfl⟩, h1⟩ := h
  obtain ⟨⟨r, hr, rfl⟩, k1⟩ := k
  exact ole_anti (h1 r hr) (k1 s hs)
section
variable {D D' : Nat → Option Int}
end

/-! ## The differences of two curves -/

/-- A common multiple of two periods. -/
structure Mult (p q L : Nat) : Prop where
  one : 1 ≤ L
  dp : L / p * p = L
  dq : L / q * q = L
theorem Lcm.mult {p q L : Nat} (h : Lcm p q L) : Mult p q L := ⟨h.one, h.dp, h.dq⟩


section
variable {zs ys : List Int} {p q : Nat} {inc jnc : Int}
/-! ### The greatest so far -/

theorem tame_mid {E : Nat → Option Int} (hu : ∀ t, E t = none → E (t + 1) = none) (hb : ∀ t x, t ≤ 400 → E t = some x → x ≤ 1125899906842624) : Tame E := by
  cases h : E 400 with
  | some y => exact tame_400 hu h (hb 400 y (Nat.le_refl _) h)
  | none =>
    refine ⟨hu, .inr fun t x hx => ?_⟩
    by_cases ht : t ≤ 400
    · have := hb t x ht hx; unfold infV; omega
    · have := stays hu h (t - 400)
      rw [show 400 + (t - 400) = t by omega, hx] at this
      cases this
/-- What one period behind tick 400 tells. -/
def Sett (F : Nat → Int) (L : Nat) (G : Int) : Prop := (F (400 + L) - F 400 = G → Per F 400 L G) ∧ ∃ S, Per F S L G
theorem Sett.no {F : Nat → Int} {L : Nat} {G : Int} (h : Sett F L G) (hn : ¬ F (400 + L) - F 400 = G) : ¬ CanBe F := fun hc => by
  obtain ⟨S, hS⟩ := h.2
  have := hc.late hS 400 (Nat.le_refl _)
  omega
/-! ### The least from a tick on -/

end

end Go.Proofs.Ytjjaaknjdmijbaa

namespace Go.Proofs.Ytjjaaknjdmijbaa

/-- A function that is given like a curve, all finite. -/
structure RawC (zs : List Int) (p : Nat) (inc : Int) : Prop where
  few : zs.length ≤ 8192
  p1 : 1 ≤ p
  p2 : p ≤ 1024
  p3 : p ≤ zs.length
  i0 : 0 ≤ inc
  i1 : inc ≤ 35184372088832
  val : ∀ i, i < zs.length → 0 ≤ zs.getD i 0 ∧ zs.getD i 0 ≤ 2251799813685248

theorem RawC.fin {zs : List Int} {p : Nat} {inc : Int} (h : RawC zs p inc) : ¬ zs.getD (zs.length - 1) 0 = infV := by
  have h1 := h.p1; have h3 := h.p3
  have := h.val (zs.length - 1) (by omega)
  unfold infV; omega
theorem RawC.small {zs : List Int} {p : Nat} {inc : Int} (h : RawC zs p inc) {i : Nat} (hi : i < zs.length) : 0 ≤ zs.getD i 0 ∧ zs.getD i 0 ≤ 2251799813685248 := h.val i hi
theorem RawC.per {zs : List Int} {p : Nat} {inc : Int} (h : RawC zs p inc) : Per (atC zs p inc) (zs.length - p) p inc := atC_per h.p1 h.p3 h.fin
theorem RawC.bd {zs : List Int} {p : Nat} {inc : Int} (h : RawC zs p inc) (t : Nat) : 0 ≤ atC zs p inc t ∧ atC zs p inc t ≤ 2251799813685248 + 35184372088832 * ((t : Int) + 1) := by
  have h0 := h.i0
  have h1 := h.i1
  induction t using Nat.strongRecOn with
  | ind t ih =>
    have hp := h.p3; have hp1 := h.p1
    by_cases hlt : t < zs.length
    · rw [atC_lt hlt]; have := h.small hlt; omega
    · have e := h.per (t - p) (by omega)
      have := ih (t - p) (by omega)
      rw [show t - p + p = t by omega] at e
      omega

section
variable {zs ys : List Int} {p q : Nat} {inc jnc : Int}

end

end Go.Proofs.Ytjjaaknjdmijbaa

namespace Go.Proofs.Ytjjaaknjdmijbaa

section
variable {zs ys : List Int} {p q : Nat} {inc jnc : Int}

/-! ## Sums -/

theorem grow_bd (g : Good zs p inc) {L : Nat} (hL2 : L ≤ 120) : 0 ≤ inc * ((L / p : Nat) : Int) ∧ inc * ((L / p : Nat) : Int) ≤ 128849018880 := by
  have h0 := g.i0; have h1 := g.i1
  have h2 : L / p ≤ 120 := Nat.le_trans (Nat.div_le_self _ _) hL2
  generalize L / p = m at h2 ⊢
  have : inc * (m : Int) ≤ 1073741824 * 120 := Int.mul_le_mul h1 (by omega) (by omega) (by omega)
  exact ⟨Int.mul_nonneg h0 (by omega), by omega⟩

theorem Good.perM (g : Good zs p inc) (hf : ¬ InfC zs) {L m : Nat} (hL : L / p * p = L) (hm : zs.length - p ≤ m) : Per (atC zs p inc) m L (inc * ((L / p : Nat) : Int)) := by
  have h := (g.per hf).mul (L / p)
  rw [hL, Int.mul_comm] at h
  exact h.mono hm

/-! ## The lesser and the greater of two -/

/-- Where a curve is below one that grows less, the lesser and the greater one of them are no curves. -/
theorem over {a b : Nat → Int} {L : Nat} {ca cb : Int} (ha : Per a 400 L ca) (hb : Per b 400 L cb) (hL : 1 ≤ L) {u : Nat} (hu : 400 ≤ u) (hne : a u < b u) (hlt : cb < ca) : ¬ CanBe (minF a b) ∧ ¬ CanBe (maxF a b) := by
  have hd : Per (fun t => b t - a t) 400 L (cb - ca) := fun t ht => by have := ha t ht; have := hb t ht; show b (t + L) - a (t + L) = b t - a t + (cb - ca); omega
  obtain ⟨S, _, hf⟩ := falls hd hL (by omega)
  have hS : S ≤ S * L := Nat.le_mul_of_pos_right _ hL
  have e1 := ha.mul S u hu
  have e2 := hb.mul S u hu
  have e3 : b (u + S * L) - a (u + S * L) ≤ 0 := hf (u + S * L) (by omega)
  constructor
  · intro hc
    obtain ⟨S', hm⟩ := min_late ha hb hL
    have h := (hc.late hm).mul S u hu
    rw [show min ca cb = cb by omega] at h
    unfold minF at h
    omega
  · intro hc
    obtain ⟨S', hm⟩ := max_late ha hb hL
    have h := (hc.late hm).mul S u hu
    rw [show max ca cb = ca by omega] at h
    unfold maxF at h
    omega

/-! ## One curve -/

end

end Go.Proofs.Ytjjaaknjdmijbaa

namespace Go.Proofs.Ytjjaaknjdmijbaa
set_option linter.unusedVariables false

/-! ### The convolution of two functions with infinity -/

def convTo (a b : Nat → Option Int) (t : Nat) : Nat → Option Int
  | 0 => none
  | k + 1 => omin (convTo a b t k) (oadd (a k) (b (t - k)))
def oconv (a b : Nat → Option Int) (t : Nat) : Option Int := convTo a b t (t + 1)

theorem ole_oadd2 {a b c d : Option Int} (h : ole a c) (k : ole b d) : ole (oadd a b) (oadd c d) := fun y hy => by
  obtain ⟨u, v, rfl, rfl, rfl⟩ := both_some hy
  obtain ⟨x, rfl, hx⟩ := h u rfl
  obtain ⟨z, rfl, hz⟩ := k v rfl
  exact ⟨x + z, rfl, by omega⟩

variable {a b c a' b' : Nat → Option Int}

/-! ### Two finite functions -/

structure Conv (x y C : Nat → Int) : Prop where
  le : ∀ t s, s ≤ t → C t ≤ x s + y (t - s)
  found : ∀ t, ∃ s, s ≤ t ∧ C t = x s + y (t - s)

variable {x y C : Nat → Int} {sa sb L : Nat} {ra rb : Int}

theorem Conv.comm (h : Conv x y C) : Conv y x C := by
  refine ⟨fun t s hs => ?_, fun t => ?_⟩
  · have := h.le t (t - s) (by omega)
    rw [show t - (t - s) = s by omega] at this; omega
  · obtain ⟨s, hs, e⟩ := h.found t
    exact ⟨t - s, by omega, by rw [show t - (t - s) = s by omega]; omega⟩

theorem Conv.lower (h : Conv x y C) (hx : Per x sa L ra) (hy : Per y sb L rb) {t : Nat} (ht : sa + sb + L ≤ t + 1) : C t + min ra rb ≤ C (t + L) := by
  obtain ⟨s, hs, e⟩ := h.found (t + L)
  by_cases h1 : sa + L ≤ s
  · have e1 := hx (s - L) (by omega)
    rw [show s - L + L = s by omega] at e1
    have := h.le t (s - L) (by omega)
    rw [show t - (s - L) = t + L - s by omega] at this
    omega
  · have e1 := hy (t - s) (by omega)
    have := h.le t s (by omega)
    rw [show t - s + L = t + L - s by omega] at e1
    omega

theorem Conv.upper (h : Conv x y C) (hx : Per x sa L ra) {t s : Nat} (hs : s ≤ t) (h1 : sa ≤ s) (e : C t = x s + y (t - s)) : C (t + L) ≤ C t + ra := by
  have := h.le (t + L) (s + L) (by omega)
  rw [show t + L - (s + L) = t - s by omega, hx s h1] at this
  omega

theorem Conv.upper' (h : Conv x y C) (hy : Per y sb L rb) {t s : Nat} (hs : s ≤ t) (h1 : sb ≤ t - s) (e : C t = x s + y (t - s)) : C (t + L) ≤ C t + rb := by
  have := h.le (t + L) s (by omega)
  rw [show t + L - s = t - s + L by omega, hy (t - s) h1] at this
  omega

theorem Conv.from1 (h : Conv x y C) (hx : Per x sa L ra) (hy : Per y sb L rb) (hlt : ra ≤ rb) {t : Nat} (ht : sa + sb ≤ t) (hc : C (t + L) = C t + ra) : C (t + L + L) ≤ C (t + L) + ra := by
  obtain ⟨s, hs, e⟩ := h.found (t + L)
  by_cases h3 : sa ≤ s
  · exact h.upper hx hs h3 e
  · have h5 := h.upper' hy hs (by omega) e
    have e1 := hy (t - s) (by omega)
    rw [show t - s + L = t + L - s by omega] at e1
    have := h.le t s (by omega)
    omega

/-- The test of one period behind both starts and one common period tells it for all ticks. -/
theorem Conv.all (h : Conv x y C) (hx : Per x sa L ra) (hy : Per y sb L rb) (hL : 1 ≤ L) {S : Nat} (hS : sa + sb + L ≤ S) (hc : ∀ t, S ≤ t → t < S + L → C (t + L) = C t + min ra rb) : Per C S L (min ra rb) := by
  intro t
  induction t using Nat.strongRecOn with
  | _ t ih =>
    intro ht
    by_cases hlt : t < S + L
    · exact hc t ht hlt
    · have e := ih (t - L) (by omega) (by omega)
      rw [show t - L + L = t by omega] at e
      have h1 := h.lower hx hy (t := t) (by omega)
      have h2 : C (t + L) ≤ C t + min ra rb := by
        rcases Int.le_total ra rb with hle | hle
        · rw [show min ra rb = ra by omega] at e ⊢
          have := h.from1 hx hy hle (t := t - L) (by omega) (by rw [show t - L + L = t by omega]; exact e)
          rwa [show t - L + L = t by omega] at this
        · rw [show min ra rb = rb by omega] at e ⊢
          have := h.comm.from1 hy hx hle (t := t - L) (by omega) (by rw [show t - L + L = t by omega]; exact e)
          rwa [show t - L + L = t by omega] at this
      omega

/-! ### The convolution of two curves -/

variable {zs ys : List Int} {p q : Nat} {inc jnc : Int}

noncomputable def eConv (zs : List Int) (p : Nat) (inc : Int) (ys : List Int) (q : Nat) (jnc : Int) : Nat → Option Int := oconv (eC zs p inc) (eC ys q jnc)
theorem at_mid2 (g : Good zs p inc) {t : Nat} (ht : t ≤ 100000) : Mid (atC zs p inc t) := by
  rcases eC_cases g (show t ≤ 1048576 by omega) with ⟨_, h2⟩ | ⟨x, _, h2, h3, h4⟩
  · exact .inl h2
  · exact .inr (by rw [h2]; exact ⟨h3, by omega⟩)

theorem growI_mul {L : Nat} (hf : ¬ InfC zs) : growI zs p inc L = inc * ((L / p : Nat) : Int) := by rw [growI_fin hf, Int.mul_comm]

end Go.Proofs.Ytjjaaknjdmijbaa

namespace Go.Proofs.Ytjjaaknjdmijbaa
set_option linter.unusedVariables false

variable {zs ys hs : List Int} {p q r : Nat} {inc jnc knc : Int}

end Go.Proofs.Ytjjaaknjdmijbaa

namespace Go.Proofs.Ytjjaaknjdmijbaa
set_option linter.unusedVariables false

section
variable {a a' b b' c : Nat → Option Int} {t : Nat}

/-- v is at least every difference at the tick t. -/
def UB (a b : Nat → Option Int) (t : Nat) (v : Option Int) : Prop := ∀ u y, b u = some y → ole (a (t + u)) (oadd v (some y))
def IsSup (a b : Nat → Option Int) (t : Nat) (v : Option Int) : Prop := UB a b t v ∧ ∀ v', UB a b t v' → ole v v'

theorem UB.mono {v v' : Option Int} (h : UB a b t v) (k : ole v v') : UB a b t v' := fun u y hy => ole_trans (h u y hy) (ole_oadd2 k (ole_refl _))
theorem IsSup.unique {v v' : Option Int} (h : IsSup a b t v) (k : IsSup a b t v') : v = v' := ole_anti (h.2 _ k.1) (k.2 _ h.1)

theorem sup_ex (h0 : b 0 = some 0) (t : Nat) : ∃ v, IsSup a b t v := by
  by_cases h : ∃ x, UB a b t (some x)
  · obtain ⟨x, hx⟩ := h
    obtain ⟨z, hz, hzx⟩ := hx 0 0 h0 _ rfl
    have key : ∀ n (x : Int), UB a b t (some x) → (x - z).toNat ≤ n → ∃ v, IsSup a b t v := by
      intro n
      induction n with
      | zero =>
        intro x hx hn
        refine ⟨some x, hx, fun v' hv => ?_⟩
        cases v' with
        | none => exact ole_none _
        | some x' =>
          obtain ⟨z2, hz2, hz3⟩ := hv 0 0 h0 _ rfl
          rw [hz] at hz2; cases hz2
          exact ole_some (by omega)
      | succ n ih =>
        intro x hx hn
        by_cases hl : ∃ x', x' < x ∧ UB a b t (some x')
        · obtain ⟨x', hl, hx'⟩ := hl
          obtain ⟨z2, hz2, hz3⟩ := hx' 0 0 h0 _ rfl
          rw [hz] at hz2; cases hz2
          exact ih x' hx' (by omega)
        · refine ⟨some x, hx, fun v' hv => ?_⟩
          cases v' with
          | none => exact ole_none _
          | some x' => exact ole_some (Int.not_lt.1 fun hlt => hl ⟨x', hlt, hv⟩)
    exact key _ x hx (Nat.le_refl _)
  · exact ⟨none, fun u y hy => by rw [oadd_none_l]; exact ole_none _, fun v' hv => by
      cases v' with
      | none => exact ole_none _
      | some x => exact absurd ⟨x, hv⟩ h⟩

open Classical in
/-- The deconvolution. -/
noncomputable def oDec (a b : Nat → Option Int) (t : Nat) : Option Int := if h : ∃ v, IsSup a b t v then Classical.choose h else none
theorem dec_is (h0 : b 0 = some 0) (t : Nat) : IsSup a b t (oDec a b t) := by
  unfold oDec; rw [dif_pos (sup_ex h0 t)]; exact Classical.choose_spec (sup_ex h0 t)
theorem dec_eq (h0 : b 0 = some 0) {v : Option Int} (h : IsSup a b t v) : oDec a b t = v := (dec_is h0 t).unique h
theorem dec_le_iff (h0 : b 0 = some 0) {v : Option Int} : ole (oDec a b t) v ↔ UB a b t v := ⟨fun h => (dec_is h0 t).1.mono h, fun h => (dec_is h0 t).2 _ h⟩

theorem oadd_zero (v : Option Int) : oadd v (some 0) = v := by
  cases v with
  | none => rfl
  | some x => show some (x + 0) = some x; rw [Int.add_zero]
theorem dec_self (h0 : b 0 = some 0) (t : Nat) : ole (a t) (oDec a b t) := by
  have := (dec_is (a := a) h0 t).1 0 0 h0
  rwa [oadd_zero] at this

theorem dec_upward (h0 : b 0 = some 0) (h : ∀ t, ole (a t) (a (t + 1))) (t : Nat) : ole (oDec a b t) (oDec a b (t + 1)) :=
  (dec_le_iff h0).2 fun u y hy => by
    have := (dec_is (a := a) h0 (t + 1)).1 u y hy
    rw [show t + 1 + u = t + u + 1 by omega] at this
    exact ole_trans (h _) this

end

/-! ## What the program computes -/

/-- How far the first function is ahead, u ticks later, of the second one. -/
def gainI (F G : Nat → Int) (t u : Nat) : Int := if F (t + u) = infV then infV else F (t + u) - G u
/-- The greatest one of so many, and 0. -/
def mostTo (F G : Nat → Int) (t : Nat) : Nat → Int
  | 0 => 0
  | n + 1 => max (mostTo F G t n) (gainI F G t n)

theorem mostTo_nn (F G : Nat → Int) (t : Nat) : ∀ n, 0 ≤ mostTo F G t n
  | 0 => Int.le_refl _
  | n + 1 => by have := mostTo_nn F G t n; unfold mostTo; omega
theorem mostTo_le {F G : Nat → Int} {t u : Nat} : ∀ {n : Nat}, u < n → gainI F G t u ≤ mostTo F G t n
  | 0, h => absurd h (Nat.not_lt_zero _)
  | n + 1, h => by
    unfold mostTo
    by_cases e : u = n
    · subst e; omega
    · have := mostTo_le (F := F) (G := G) (t := t) (show u < n by omega); omega
theorem mostTo_found (F G : Nat → Int) (t : Nat) : ∀ n, mostTo F G t n = 0 ∨ ∃ u, u < n ∧ gainI F G t u = mostTo F G t n
  | 0 => .inl rfl
  | n + 1 => by
    by_cases h : mostTo F G t n < gainI F G t n
    · exact .inr ⟨n, by omega, by unfold mostTo; omega⟩
    · have e : mostTo F G t (n + 1) = mostTo F G t n := by show max _ _ = _; omega
      rw [e]
      rcases mostTo_found F G t n with h1 | ⟨u, h1, h2⟩
      · exact .inl h1
      · exact .inr ⟨u, by omega, h2⟩

/-- The greatest one is attained, if the first one is not negative. -/
theorem mostTo_at {F G : Nat → Int} {t n : Nat} (hn : 1 ≤ n) (h0 : 0 ≤ F t) (hG : G 0 = 0) : ∃ u, u < n ∧ gainI F G t u = mostTo F G t n := by
  rcases mostTo_found F G t n with h | h
  · refine ⟨0, by omega, ?_⟩
    have := mostTo_le (F := F) (G := G) (t := t) (show 0 < n by omega)
    rw [h] at this ⊢
    unfold gainI at this ⊢
    rw [Nat.add_zero, hG] at this ⊢
    split at this <;> rename_i e
    · unfold infV at this; omega
    · rw [if_neg e]; omega
  · exact h

/-- The greatest one, told by its properties. -/
theorem mostTo_eq {F G : Nat → Int} {t n : Nat} {v : Int} (hn : 1 ≤ n) (h0 : 0 ≤ F t) (hG : G 0 = 0) (h1 : ∃ u, u < n ∧ gainI F G t u = v) (h2 : ∀ u, u < n → gainI F G t u ≤ v) : mostTo F G t n = v := by
  obtain ⟨u, hu, e⟩ := mostTo_at (F := F) (G := G) (t := t) hn h0 hG
  obtain ⟨u2, hu2, e2⟩ := h1
  have k1 := h2 u hu
  have k2 := mostTo_le (F := F) (G := G) (t := t) hu2
  omega

theorem mostTo_inf {F G : Nat → Int} {t n u : Nat} (hu : u < n) (h : F (t + u) = infV) (hb : ∀ u, u < n → gainI F G t u ≤ infV) : mostTo F G t n = infV := by
  have h1 := mostTo_le (F := F) (G := G) (t := t) hu
  have e : gainI F G t u = infV := by unfold gainI; rw [if_pos h]
  rcases mostTo_found F G t n with h2 | ⟨u2, h2, h3⟩
  · rw [e, h2] at h1; unfold infV at h1; omega
  · have := hb u2 h2; omega

section
variable {zs ys hs : List Int} {p q r : Nat} {inc jnc knc : Int}

noncomputable def eDec (zs : List Int) (p : Nat) (inc : Int) (ys : List Int) (q : Nat) (jnc : Int) : Nat → Option Int := oDec (eC zs p inc) (eC ys q jnc)

/-- Without bound: the first one grows faster. -/
def Steep (zs : List Int) (p : Nat) (inc : Int) (ys : List Int) (q : Nat) (jnc : Int) (L : Nat) : Prop := ¬ InfC zs ∧ ¬ InfC ys ∧ growI ys q jnc L < growI zs p inc L

/-- The reach. -/
noncomputable def reach (zs : List Int) (p : Nat) (ys : List Int) (q : Nat) (L : Nat) : Nat :=
  open Classical in if InfC ys then ys.length - 1 else max (zs.length - p) (ys.length - q) + L

theorem reach_inf {L : Nat} (h : InfC ys) : reach zs p ys q L = ys.length - 1 := by unfold reach; rw [if_pos h]
theorem reach_fin {L : Nat} (h : ¬ InfC ys) : reach zs p ys q L = max (zs.length - p) (ys.length - q) + L := by unfold reach; rw [if_neg h]

theorem eC_mono1 (g : Good zs p inc) (t : Nat) : ole (eC zs p inc t) (eC zs p inc (t + 1)) := fun y hy => by
  cases h : eC zs p inc t with
  | none => rw [eC_up g h] at hy; cases hy
  | some x => exact ⟨x, rfl, eC_mono g h hy⟩
theorem eC_monoK (g : Good zs p inc) (t k : Nat) : ole (eC zs p inc t) (eC zs p inc (t + k)) := by
  induction k with
  | zero => exact ole_refl _
  | succ k ih => exact ole_trans ih (eC_mono1 g (t + k))

theorem eC_zero0 (g : Good ys q jnc) (h : atC ys q jnc 0 = 0) : eC ys q jnc 0 = some 0 := by
  unfold eC; rw [h, if_neg]; rintro ⟨_, e⟩; unfold infV at e; omega

/-- Below the reach the second curve is finite, at and behind it it is not, in a normal form. -/
theorem norm_inf (g : Good ys q jnc) (hi : InfC ys) (hn : ∃ s, ys.length = s + q ∧ NormOf (atC ys q jnc) s q jnc) (u : Nat) : (u < ys.length - 1 → ∃ y, eC ys q jnc u = some y) ∧ (ys.length - 1 ≤ u → eC ys q jnc u = none) := by
  refine ⟨fun hu => ?_, fun hu => eC_late g hi hu⟩
  cases h : eC ys q jnc u with
  | some y => exact ⟨y, rfl⟩
  | none =>
    exfalso
    obtain ⟨s, hs, hn⟩ := hn
    obtain ⟨rfl, rfl⟩ := g.tailI hi
    have hall : ∀ k, atC ys 1 0 (u + k) = infV := fun k => (eC_none.1 (stays (fun t ht => eC_up g ht) h k)).2
    have hp : Per (atC ys 1 0) u 1 0 := fun t ht => by
      rw [show t = u + (t - u) by omega, hall, show u + (t - u) + 1 = u + (t - u + 1) by omega, hall]; omega
    have := hn.start_le hp (by omega)
    omega

theorem not_steep {L : Nat} (hs : ¬ Steep zs p inc ys q jnc L) (f1 : ¬ InfC zs) (f2 : ¬ InfC ys) : growI zs p inc L ≤ growI ys q jnc L := Int.not_lt.1 fun h => hs ⟨f1, f2, h⟩

/-- The first curve is finite and not faster: the bound is attained below the reach. -/
theorem dec_fin (g : Good zs p inc) (k : Good ys q jnc) (h0 : atC ys q jnc 0 = 0) (hn : ∃ s, ys.length = s + q ∧ NormOf (atC ys q jnc) s q jnc) {L : Nat} (hL : Mult p q L) (h : ¬ Steep zs p inc ys q jnc L) (f1 : ¬ InfC zs) (t : Nat) :
    ∃ v, eDec zs p inc ys q jnc t = some v ∧ (∃ u, u < reach zs p ys q L ∧ atC zs p inc (t + u) - atC ys q jnc u = v) ∧ (∀ u, u < reach zs p ys q L → atC zs p inc (t + u) - atC ys q jnc u ≤ v) := by
  have h00 := eC_zero0 k h0
  have hL1 := hL.one
  -- the greatest difference of the first n
  have ex : ∀ n, 1 ≤ n → ∃ v, (∃ u, u < n ∧ atC zs p inc (t + u) - atC ys q jnc u = v) ∧ ∀ u, u < n → atC zs p inc (t + u) - atC ys q jnc u ≤ v := fun n hn => by
    induction n with
    | zero => omega
    | succ n ih =>
      by_cases h1 : 1 ≤ n
      · obtain ⟨v, ⟨u, hu, e⟩, hv⟩ := ih h1
        by_cases hx : v < atC zs p inc (t + n) - atC ys q jnc n
        · refine ⟨_, ⟨n, by omega, rfl⟩, fun u hu => ?_⟩
          by_cases e : u = n
          · subst e; omega
          · have := hv u (by omega); omega
        · refine ⟨v, ⟨u, by omega, e⟩, fun u hu => ?_⟩
          by_cases e : u = n
          · subst e; omega
          · exact hv u (by omega)
      · exact ⟨_, ⟨0, by omega, rfl⟩, fun u hu => by rw [show u = 0 by omega]; omega⟩
  have hR : 1 ≤ reach zs p ys q L := by
    by_cases f2 : InfC ys
    · rw [reach_inf f2]
      rcases Nat.lt_or_ge 1 ys.length with h1 | h1
      · omega
      · exfalso
        have e : ys.length - 1 = 0 := by omega
        have f3 := f2
        unfold InfC at f3
        rw [e] at f3
        have := k.p1; have := k.p3
        rw [atC_lt (by omega), f3] at h0
        unfold infV at h0; omega
    · rw [reach_fin f2]; omega
  obtain ⟨v, ⟨u, hu, e⟩, hv⟩ := ex _ hR
  have hy : ∀ u, u < reach zs p ys q L → eC ys q jnc u = some (atC ys q jnc u) := fun u hu => by
    by_cases f2 : InfC ys
    · rw [reach_inf f2] at hu
      obtain ⟨y, hy⟩ := (norm_inf k f2 hn u).1 hu
      rw [hy, (eC_bd k hy).2.2]
    · exact eC_fin f2 q jnc u
  refine ⟨v, dec_eq h00 ⟨fun u' y hy' => ?_, fun v' hv' => ?_⟩, ⟨u, hu, e⟩, hv⟩
  · have key : ∀ n u', u' ≤ n → ∀ y, eC ys q jnc u' = some y → atC zs p inc (t + u') - y ≤ v := by
      intro n
      induction n with
      | zero =>
        intro u' hu' y hy'
        have := hy u' (by omega); rw [hy'] at this; cases this
        exact hv u' (by omega)
      | succ n ih =>
        intro u' hu' y hy'
        by_cases hr : u' < reach zs p ys q L
        · have := hy u' hr; rw [hy'] at this; cases this
          exact hv u' hr
        · by_cases f2 : InfC ys
          · rw [reach_inf f2] at hr
            rw [(norm_inf k f2 hn u').2 (by omega)] at hy'; cases hy'
          · rw [reach_fin f2] at hr
            have hle := not_steep h f1 f2
            rw [growI_mul f1, growI_mul f2] at hle
            have P1 := g.perM f1 hL.dp (Nat.le_refl _) (t + (u' - L)) (by omega)
            have P2 := k.perM f2 hL.dq (Nat.le_refl _) (u' - L) (by omega)
            rw [show t + (u' - L) + L = t + u' by omega] at P1
            rw [show u' - L + L = u' by omega] at P2
            rw [eC_fin f2] at hy'; cases hy'
            have := ih (u' - L) (by omega) _ (eC_fin f2 q jnc _)
            omega
    rw [eC_fin f1]
    exact ole_some (by have := key u' u' (Nat.le_refl _) y hy'; omega)
  · cases v' with
    | none => exact ole_none _
    | some x =>
      have := hv' u _ (hy u hu)
      rw [eC_fin f1] at this
      obtain ⟨z, hz, hzl⟩ := this _ rfl
      cases hz
      exact ole_some (by omega)

/-- What all of this stage's values keep to. -/
structure Dec (zs : List Int) (p : Nat) (inc : Int) (ys : List Int) (q : Nat) (jnc : Int) (L : Nat) : Prop where
  g : Good zs p inc
  k : Good ys q jnc
  h0 : atC ys q jnc 0 = 0
  ng : ∃ s, zs.length = s + p ∧ NormOf (atC zs p inc) s p inc
  nk : ∃ s, ys.length = s + q ∧ NormOf (atC ys q jnc) s q jnc
  m : Mult p q L
  l : L ≤ 120

variable {L : Nat}
theorem Dec.reach1 (d : Dec zs p inc ys q jnc L) : 1 ≤ reach zs p ys q L := by
  have := d.m.one
  by_cases f2 : InfC ys
  · rw [reach_inf f2]
    rcases Nat.lt_or_ge 1 ys.length with h1 | h1
    · omega
    · exfalso
      have h0 := d.h0
      have e : ys.length - 1 = 0 := by omega
      have f3 := f2
      unfold InfC at f3
      rw [e] at f3
      have := d.k.p1; have := d.k.p3
      rw [atC_lt (by omega), f3] at h0
      unfold infV at h0; omega
  · rw [reach_fin f2]; omega
theorem Dec.reach_le (d : Dec zs p inc ys q jnc L) : reach zs p ys q L ≤ 519 := by
  have := d.l; have := d.g.few; have := d.g.p1; have := d.k.few; have := d.k.p1; have := d.g.p3; have := d.k.p3
  by_cases f2 : InfC ys
  · rw [reach_inf f2]; omega
  · rw [reach_fin f2]; omega
theorem Dec.second (d : Dec zs p inc ys q jnc L) {u : Nat} (hu : u < reach zs p ys q L) : eC ys q jnc u = some (atC ys q jnc u) := by
  by_cases f2 : InfC ys
  · rw [reach_inf f2] at hu
    obtain ⟨y, hy⟩ := (norm_inf d.k f2 d.nk u).1 hu
    rw [hy, (eC_bd d.k hy).2.2]
  · exact eC_fin f2 q jnc u
theorem Dec.second_bd (d : Dec zs p inc ys q jnc L) {u : Nat} (hu : u < reach zs p ys q L) : 0 ≤ atC ys q jnc u ∧ atC ys q jnc u ≤ 1073741824 * ((u : Int) + 1) := by
  have := eC_bd d.k (d.second hu); omega

/-- A gain is infinite or small. -/
theorem Dec.gain_bd (d : Dec zs p inc ys q jnc L) {t u : Nat} (ht : t ≤ 100000) (hu : u < reach zs p ys q L) : gainI (atC zs p inc) (atC ys q jnc) t u = infV ∨ (-1125899906842624 ≤ gainI (atC zs p inc) (atC ys q jnc) t u ∧ gainI (atC zs p inc) (atC ys q jnc) t u ≤ 1073741824 * ((t : Int) + 520)) := by
  unfold gainI
  have := d.second_bd hu
  have := d.reach_le
  rcases eC_cases d.g (t := t + u) (by omega) with ⟨_, e⟩ | ⟨x, _, e, h1, h2⟩
  · exact .inl (by rw [if_pos e])
  · rw [e]
    by_cases hx : x = infV
    · unfold infV at hx; omega
    · rw [if_neg hx]; right; omega
theorem Dec.first0 (d : Dec zs p inc ys q jnc L) (t : Nat) : 0 ≤ atC zs p inc t := by
  by_cases f1 : InfC zs
  · rcases eC_inf d.g f1 t with h | ⟨x, _, h, h1, _⟩
    · rw [(eC_none.1 h).2]; unfold infV; omega
    · omega
  · exact (d.g.bd f1 t).1
theorem Dec.most_at (d : Dec zs p inc ys q jnc L) (t : Nat) : ∃ u, u < reach zs p ys q L ∧ gainI (atC zs p inc) (atC ys q jnc) t u = mostTo (atC zs p inc) (atC ys q jnc) t (reach zs p ys q L) :=
  mostTo_at d.reach1 (d.first0 t) d.h0
theorem Dec.most_mid (d : Dec zs p inc ys q jnc L) {t n : Nat} (ht : t ≤ 100000) (hn : n ≤ reach zs p ys q L) : mostTo (atC zs p inc) (atC ys q jnc) t n = infV ∨ (0 ≤ mostTo (atC zs p inc) (atC ys q jnc) t n ∧ mostTo (atC zs p inc) (atC ys q jnc) t n ≤ 1073741824 * ((t : Int) + 520)) := by
  have h0 := mostTo_nn (atC zs p inc) (atC ys q jnc) t n
  rcases mostTo_found (atC zs p inc) (atC ys q jnc) t n with h | ⟨u, hu, e⟩
  · rw [h]; right; omega
  · have := d.gain_bd ht (show u < reach zs p ys q L by omega)
    rw [e] at this; omega

/-- The values that the program computes are those of the deconvolution. -/
theorem Dec.val (d : Dec zs p inc ys q jnc L) (hs : ¬ Steep zs p inc ys q jnc L) {t : Nat} (ht : t ≤ 100000) :
    encF (eDec zs p inc ys q jnc) t = mostTo (atC zs p inc) (atC ys q jnc) t (reach zs p ys q L) ∧ (∀ x, eDec zs p inc ys q jnc t = some x → ∃ u, u < reach zs p ys q L ∧ atC zs p inc (t + u) - atC ys q jnc u = x ∧ ¬ atC zs p inc (t + u) = infV) ∧
      (eDec zs p inc ys q jnc t = none → mostTo (atC zs p inc) (atC ys q jnc) t (reach zs p ys q L) = infV) := by
  have h00 := eC_zero0 d.k d.h0
  have hr := d.reach_le
  have hle : ∀ u, u < reach zs p ys q L → gainI (atC zs p inc) (atC ys q jnc) t u ≤ infV := fun u hu => by
    rcases d.gain_bd ht hu with h | h
    · omega
    · unfold infV; omega
  by_cases hx : ∃ u, u < reach zs p ys q L ∧ eC zs p inc (t + u) = none
  · obtain ⟨u, hu, hnone⟩ := hx
    have e1 : eDec zs p inc ys q jnc t = none := dec_eq h00 ⟨fun u y _ => by rw [oadd_none_l]; exact ole_none _, fun v' hv' => by
      cases v' with
      | none => exact ole_none _
      | some x =>
        obtain ⟨z, hz, _⟩ := hv' u _ (d.second hu) _ rfl
        rw [hnone] at hz; cases hz⟩
    have e2 := mostTo_inf hu ((eC_none.1 hnone).2) hle
    exact ⟨by rw [encF_none e1, e2], fun x h => (by rw [e1] at h; cases h), fun _ => e2⟩
  · have hsome : ∀ u, u < reach zs p ys q L → ∃ x, eC zs p inc (t + u) = some x := fun u hu => by
      cases h : eC zs p inc (t + u) with
      | none => exact absurd ⟨u, hu, h⟩ hx
      | some x => exact ⟨x, rfl⟩
    have hne : ∀ u, u < reach zs p ys q L → ¬ atC zs p inc (t + u) = infV := fun u hu => by
      obtain ⟨x, hx⟩ := hsome u hu
      have := eC_bd d.g hx
      unfold infV; omega
    have hg : ∀ u, u < reach zs p ys q L → gainI (atC zs p inc) (atC ys q jnc) t u = atC zs p inc (t + u) - atC ys q jnc u := fun u hu => by unfold gainI; rw [if_neg (hne u hu)]
    obtain ⟨v, e1, ⟨u, hu, e⟩, hv⟩ : ∃ v, eDec zs p inc ys q jnc t = some v ∧ (∃ u, u < reach zs p ys q L ∧ atC zs p inc (t + u) - atC ys q jnc u = v) ∧ (∀ u, u < reach zs p ys q L → atC zs p inc (t + u) - atC ys q jnc u ≤ v) := by
      by_cases f1 : InfC zs
      · have f2 : InfC ys := Classical.byContradiction fun f2 => by
          have h1 := (d.g.tailI f1).1
          obtain ⟨x, hx⟩ := hsome (zs.length - 1) (by rw [reach_fin f2]; have := d.m.one; omega)
          rw [eC_late d.g f1 (by omega)] at hx; cases hx
        obtain ⟨u, hu, e⟩ := d.most_at t
        refine ⟨mostTo (atC zs p inc) (atC ys q jnc) t (reach zs p ys q L), dec_eq h00 ⟨fun u' y hy' => ?_, fun v' hv' => ?_⟩, ⟨u, hu, by rw [← hg u hu]; exact e⟩, fun u' hu' => by rw [← hg u' hu']; exact mostTo_le hu'⟩
        · have hu' : u' < reach zs p ys q L := Nat.lt_of_not_le fun hl => by
            rw [reach_inf f2] at hl
            rw [eC_late d.k f2 hl] at hy'; cases hy'
          obtain ⟨x, hx⟩ := hsome u' hu'
          rw [hx]
          have h1 := mostTo_le (F := atC zs p inc) (G := atC ys q jnc) (t := t) hu'
          have h2 := (eC_bd d.g hx).2.2
          have h3 := (eC_bd d.k hy').2.2
          rw [hg u' hu'] at h1
          exact ole_some (by omega)
        · cases v' with
          | none => exact ole_none _
          | some x =>
            obtain ⟨z, hz, hzl⟩ := hv' u _ (d.second hu) _ rfl
            have := (eC_bd d.g hz).2.2
            rw [hg u hu] at e
            exact ole_some (by omega)
      · exact dec_fin d.g d.k d.h0 d.nk d.m hs f1 t
    have e2 : mostTo (atC zs p inc) (atC ys q jnc) t (reach zs p ys q L) = v := mostTo_eq d.reach1 (d.first0 t) d.h0 ⟨u, hu, by rw [hg u hu]; exact e⟩ (fun u' hu' => by rw [hg u' hu']; exact hv u' hu')
    exact ⟨by rw [encF_some e1, e2], fun x h => (by rw [e1] at h; cases h; exact ⟨u, hu, e, hne u hu⟩), fun h => (by rw [e1] at h; cases h)⟩

theorem dec_up (g : Good zs p inc) (k : Good ys q jnc) (h0 : atC ys q jnc 0 = 0) (t : Nat) (h : eDec zs p inc ys q jnc t = none) : eDec zs p inc ys q jnc (t + 1) = none := by
  cases h2 : eDec zs p inc ys q jnc (t + 1) with
  | none => rfl
  | some y =>
    obtain ⟨x, hx, _⟩ := dec_upward (eC_zero0 k h0) (eC_mono1 g) t y h2
    rw [show oDec (eC zs p inc) (eC ys q jnc) t = none from h] at hx; cases hx

/-- Where the first curve grows by c in P ticks from s on, so do the bounds. -/
theorem Dec.shift (d : Dec zs p inc ys q jnc L) (hs : ¬ Steep zs p inc ys q jnc L) (f1 : ¬ InfC zs) {s P : Nat} {c : Int} (h : Per (atC zs p inc) s P c) : Per (encF (eDec zs p inc ys q jnc)) s P c := fun t ht => by
  obtain ⟨v, e1, ⟨u, hu, e2⟩, h1⟩ := dec_fin d.g d.k d.h0 d.nk d.m hs f1 t
  obtain ⟨v', e1', ⟨u', hu', e2'⟩, h1'⟩ := dec_fin d.g d.k d.h0 d.nk d.m hs f1 (t + P)
  rw [encF_some e1, encF_some e1']
  have k1 := h (t + u) (by omega)
  have k2 := h (t + u') (by omega)
  have k3 := h1' u hu
  have k4 := h1 u' hu'
  rw [show t + P + u = t + u + P by omega] at k3
  rw [show t + P + u' = t + u' + P by omega] at e2'
  omega

theorem Dec.none_late (d : Dec zs p inc ys q jnc L) (f1 : InfC zs) {t : Nat} (ht : zs.length - p ≤ t) : eDec zs p inc ys q jnc t = none := by
  have h1 := (d.g.tailI f1).1
  cases h : eDec zs p inc ys q jnc t with
  | none => rfl
  | some y =>
    obtain ⟨x, hx, _⟩ := dec_self (a := eC zs p inc) (eC_zero0 d.k d.h0) t y h
    rw [eC_late d.g f1 (by omega)] at hx; cases hx

theorem Dec.from (d : Dec zs p inc ys q jnc L) (hs : ¬ Steep zs p inc ys q jnc L) : FromOk (eDec zs p inc ys q jnc) (zs.length - p) p := by
  have hn := d.g.few; have h1 := d.g.p1; have h2 := d.g.p2; have h3 := d.g.p3
  refine ⟨fun t ht => ?_, ?_, tame_mid (dec_up d.g d.k d.h0) fun t x ht hx => ?_⟩
  · rw [(d.val hs (by omega)).1]
    rcases d.most_mid (t := t) (by omega) (Nat.le_refl _) with h | h
    · rw [h]; unfold infV; omega
    · unfold infV; omega
  · by_cases f1 : InfC zs
    · exact ⟨0, fun t ht => by rw [encF_none (d.none_late f1 ht), encF_none (d.none_late f1 (by omega))]; omega⟩
    · exact ⟨inc, d.shift hs f1 (d.g.per f1)⟩
  · obtain ⟨u, hu, e, hne⟩ := (d.val hs (show t ≤ 100000 by omega)).2.1 x hx
    have := d.gain_bd (t := t) (by omega) hu
    unfold gainI at this
    rw [if_neg hne, e] at this
    unfold infV at this
    rcases this with h | h
    · exfalso
      have := d.second_bd hu; have := d.reach_le
      rcases eC_cases d.g (t := t + u) (by omega) with ⟨_, e5⟩ | ⟨x5, _, e5, h5, h6⟩
      · exact hne e5
      · omega
    · omega

end
end Go.Proofs.Ytjjaaknjdmijbaa
