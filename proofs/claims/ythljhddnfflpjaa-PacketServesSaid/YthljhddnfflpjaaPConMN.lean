/- Mathematics of the convolution of two curves, without the program. By the verifier's side. | Mathematics of the certificates of a convolution, without the program. By the verifier's side. -/
import Derived.Test.YthljhddnfflpjaaPPwOPwXR56MHpM
namespace Go.Proofs.Ythljhddnfflpjaa
set_option linter.unusedVariables false

/-! ### The convolution of two functions with infinity -/

def convTo (a b : Nat → Option Int) (t : Nat) : Nat → Option Int
  | 0 => none
  | k + 1 => omin (convTo a b t k) (oadd (a k) (b (t - k)))
def oconv (a b : Nat → Option Int) (t : Nat) : Option Int := convTo a b t (t + 1)

theorem omin_cases (a b : Option Int) : omin a b = a ∨ omin a b = b := by
  cases a with
  | none => exact .inr (by cases b <;> rfl)
  | some x => cases b with
    | none => exact .inl rfl
    | some y => rcases Int.le_total x y with h | h
                · exact .inl (by show some (min x y) = _; congr 1; omega)
                · exact .inr (by show some (min x y) = _; congr 1; omega)

variable {a b c a' b' : Nat → Option Int}

theorem convTo_le {s t : Nat} : ∀ {k : Nat}, s < k → ole (convTo a b t k) (oadd (a s) (b (t - s)))
  | k + 1, h => by
    by_cases he : s = k
    · subst he; exact ole_omin_r _ _
    · exact ole_trans (ole_omin_l _ _) (convTo_le (show s < k by omega))

theorem convTo_found {t : Nat} : ∀ k : Nat, convTo a b t k = none ∨ ∃ s, s < k ∧ convTo a b t k = oadd (a s) (b (t - s))
  | 0 => .inl rfl
  | k + 1 => by
    rcases omin_cases (convTo a b t k) (oadd (a k) (b (t - k))) with e | e
    · rcases convTo_found k with h | ⟨s, hs, h⟩
      · exact .inl (by show omin _ _ = _; rw [e, h])
      · exact .inr ⟨s, by omega, by show omin _ _ = _; rw [e, h]⟩
    · exact .inr ⟨k, by omega, e⟩

theorem oconv_le {s t : Nat} (h : s ≤ t) : ole (oconv a b t) (oadd (a s) (b (t - s))) := convTo_le (by omega)

theorem oconv_found (t : Nat) : ∃ s, s ≤ t ∧ oconv a b t = oadd (a s) (b (t - s)) := by
  rcases convTo_found (a := a) (b := b) (t := t) (t + 1) with h | ⟨s, hs, h⟩
  · refine ⟨0, by omega, ?_⟩
    cases he : oadd (a 0) (b (t - 0)) with
    | none => exact h
    | some y =>
      obtain ⟨x, hx, _⟩ := oconv_le (a := a) (b := b) (Nat.zero_le t) y he
      exact absurd (show oconv a b t = none from h) (by rw [hx]; simp)
  · exact ⟨s, by omega, h⟩

theorem oconv_great {t : Nat} {v : Option Int} (h : ∀ s, s ≤ t → ole v (oadd (a s) (b (t - s)))) : ole v (oconv a b t) := by
  obtain ⟨s, hs, e⟩ := oconv_found (a := a) (b := b) t
  rw [e]; exact h s hs

theorem oconv_comm (a b : Nat → Option Int) : oconv a b = oconv b a := by
  refine funext fun t => ole_anti (oconv_great fun s hs => ?_) (oconv_great fun s hs => ?_)
  · rw [oadd_comm]
    have := oconv_le (a := a) (b := b) (show t - s ≤ t by omega)
    rwa [show t - (t - s) = s by omega] at this
  · rw [oadd_comm]
    have := oconv_le (a := b) (b := a) (show t - s ≤ t by omega)
    rwa [show t - (t - s) = s by omega] at this

/-! ### Two finite functions -/

structure Conv (x y C : Nat → Int) : Prop where
  le : ∀ t s, s ≤ t → C t ≤ x s + y (t - s)
  found : ∀ t, ∃ s, s ≤ t ∧ C t = x s + y (t - s)

variable {x y C : Nat → Int} {sa sb L : Nat} {ra rb : Int}

theorem Conv.comm (h : Conv x y C) : Conv y x C := by
  refine ⟨fun t s hs => ?_, fun t => ?_⟩
  · have := h.le t (t - s) (by omega)
    rw [show t - (t - s) = s by omega] at this; omega
  · obtain ⟨s, hs, e⟩ := h.found t
    exact ⟨t - s, by omega, by rw [show t - (t - s) = s by omega]; omega⟩

theorem Conv.lower (h : Conv x y C) (hx : Per x sa L ra) (hy : Per y sb L rb) {t : Nat} (ht : sa + sb + L ≤ t + 1) : C t + min ra rb ≤ C (t + L) := by
  obtain ⟨s, hs, e⟩ := h.found (t + L)
  by_cases h1 : sa + L ≤ s
  · have e1 := hx (s - L) (by omega)
    rw [show s - L + L = s by omega] at e1
    have := h.le t (s - L) (by omega)
    rw [show t - (s - L) = t + L - s by omega] at this
    omega
  · have e1 := hy (t - s) (by omega)
    have := h.le t s (by omega)
    rw [show t - s + L = t + L - s by omega] at e1
    omega

theorem Conv.upper (h : Conv x y C) (hx : Per x sa L ra) {t s : Nat} (hs : s ≤ t) (h1 : sa ≤ s) (e : C t = x s + y (t - s)) : C (t + L) ≤ C t + ra := by
  have := h.le (t + L) (s + L) (by omega)
  rw [show t + L - (s + L) = t - s by omega, hx s h1] at this
  omega

theorem Conv.upper' (h : Conv x y C) (hy : Per y sb L rb) {t s : Nat} (hs : s ≤ t) (h1 : sb ≤ t - s) (e : C t = x s + y (t - s)) : C (t + L) ≤ C t + rb := by
  have := h.le (t + L) s (by omega)
  rw [show t + L - s = t - s + L by omega, hy (t - s) h1] at this
  omega

theorem Conv.eq (h : Conv x y C) (hx : Per x sa L ra) (hy : Per y sb L ra) : Per C (sa + sb + L) L ra := fun t ht => by
  have h1 := h.lower hx hy (t := t) (by omega)
  obtain ⟨s, hs, e⟩ := h.found t
  have h2 : C (t + L) ≤ C t + ra := by
    by_cases h3 : sa ≤ s
    · exact h.upper hx hs h3 e
    · exact h.upper' hy hs (by omega) e
  omega

theorem Conv.late1 (h : Conv x y C) (hx : Per x sa L ra) (hy : Per y sb L rb) (hL : 1 ≤ L) (hlt : ra < rb) (hx0 : ∀ t, 0 ≤ x t) (hym : ∀ t k, y t ≤ y (t + k)) : ∃ S, Per C S L ra := by
  have hd : Per (fun t => x t + y 0 - y (t - sa)) (sa + sb) L (ra - rb) := fun t ht => by
    have e1 := hx t (by omega)
    have e2 := hy (t - sa) (by omega)
    show x (t + L) + y 0 - y (t + L - sa) = x t + y 0 - y (t - sa) + (ra - rb)
    rw [show t + L - sa = t - sa + L by omega]; omega
  obtain ⟨S', hS, hf⟩ := falls hd hL (by omega)
  refine ⟨S' + L, fun t ht => ?_⟩
  have h1 := h.lower hx hy (t := t) (by omega)
  obtain ⟨s, hs, e⟩ := h.found t
  have h2 : C (t + L) ≤ C t + ra := by
    by_cases h3 : sa ≤ s
    · exact h.upper hx hs h3 e
    · have e1 : x t + y 0 - y (t - sa) ≤ 0 := hf t (by omega)
      have e2 := hym (t - sa) (sa - s)
      rw [show t - sa + (sa - s) = t - s by omega] at e2
      have e3 := hx0 s
      have e4 := h.le t t (Nat.le_refl _)
      have e5 : y (t - t) = y 0 := by rw [show t - t = 0 by omega]
      exact h.upper hx (Nat.le_refl t) (by omega) (by omega)
  omega

theorem Conv.late (h : Conv x y C) (hx : Per x sa L ra) (hy : Per y sb L rb) (hL : 1 ≤ L) (hx0 : ∀ t, 0 ≤ x t) (hy0 : ∀ t, 0 ≤ y t) (hxm : ∀ t k, x t ≤ x (t + k)) (hym : ∀ t k, y t ≤ y (t + k)) : ∃ S, Per C S L (min ra rb) := by
  rcases Int.lt_trichotomy ra rb with hlt | he | hlt
  · rw [show min ra rb = ra by omega]; exact h.late1 hx hy hL hlt hx0 hym
  · subst he
    rw [show min ra ra = ra by omega]; exact ⟨_, h.eq hx hy⟩
  · rw [show min ra rb = rb by omega]; exact h.comm.late1 hy hx hL hlt hy0 hxm

theorem Conv.from1 (h : Conv x y C) (hx : Per x sa L ra) (hy : Per y sb L rb) (hlt : ra ≤ rb) {t : Nat} (ht : sa + sb ≤ t) (hc : C (t + L) = C t + ra) : C (t + L + L) ≤ C (t + L) + ra := by
  obtain ⟨s, hs, e⟩ := h.found (t + L)
  by_cases h3 : sa ≤ s
  · exact h.upper hx hs h3 e
  · have h5 := h.upper' hy hs (by omega) e
    have e1 := hy (t - s) (by omega)
    rw [show t - s + L = t + L - s by omega] at e1
    have := h.le t s (by omega)
    omega

/-- The test of one period behind both starts and one common period tells it for all ticks. -/
theorem Conv.all (h : Conv x y C) (hx : Per x sa L ra) (hy : Per y sb L rb) (hL : 1 ≤ L) {S : Nat} (hS : sa + sb + L ≤ S) (hc : ∀ t, S ≤ t → t < S + L → C (t + L) = C t + min ra rb) : Per C S L (min ra rb) := by
  intro t
  induction t using Nat.strongRecOn with
  | _ t ih =>
    intro ht
    by_cases hlt : t < S + L
    · exact hc t ht hlt
    · have e := ih (t - L) (by omega) (by omega)
      rw [show t - L + L = t by omega] at e
      have h1 := h.lower hx hy (t := t) (by omega)
      have h2 : C (t + L) ≤ C t + min ra rb := by
        rcases Int.le_total ra rb with hle | hle
        · rw [show min ra rb = ra by omega] at e ⊢
          have := h.from1 hx hy hle (t := t - L) (by omega) (by rw [show t - L + L = t by omega]; exact e)
          rwa [show t - L + L = t by omega] at this
        · rw [show min ra rb = rb by omega] at e ⊢
          have := h.comm.from1 hy hx hle (t := t - L) (by omega) (by rw [show t - L + L = t by omega]; exact e)
          rwa [show t - L + L = t by omega] at this
      omega

/-! ### The convolution of two curves -/

variable {zs ys : List Int} {p q : Nat} {inc jnc : Int}

noncomputable def eConv (zs : List Int) (p : Nat) (inc : Int) (ys : List Int) (q : Nat) (jnc : Int) : Nat → Option Int := oconv (eC zs p inc) (eC ys q jnc)
noncomputable def convG (zs : List Int) (p : Nat) (inc : Int) (ys : List Int) (q : Nat) (jnc : Int) (L : Nat) : Int :=
  if plI (atC zs p inc 0) (atC ys q jnc 0) = infV then infV else min (growI zs p inc L) (growI ys q jnc L)

theorem eConv_comm (zs : List Int) (p : Nat) (inc : Int) (ys : List Int) (q : Nat) (jnc : Int) : eConv zs p inc ys q jnc = eConv ys q jnc zs p inc := oconv_comm _ _
theorem at_mid2 (g : Good zs p inc) {t : Nat} (ht : t ≤ 100000) : Mid (atC zs p inc t) := by
  rcases eC_cases g (show t ≤ 1048576 by omega) with ⟨_, h2⟩ | ⟨x, _, h2, h3, h4⟩
  · exact .inl h2
  · exact .inr (by rw [h2]; exact ⟨h3, by omega⟩)

theorem enc_oadd (g : Good zs p inc) (k : Good ys q jnc) {t u : Nat} (ht : t ≤ 1048576) (hu : u ≤ 1048576) : enc (oadd (eC zs p inc t) (eC ys q jnc u)) = plI (atC zs p inc t) (atC ys q jnc u) := by
  rcases eC_cases g ht with ⟨h1, h2⟩ | ⟨x, h1, h2, h3, h4⟩
  · rw [h1, h2, plI_l, oadd_none_l]; rfl
  · rcases eC_cases k hu with ⟨k1, k2⟩ | ⟨y, k1, k2, k3, k4⟩
    · rw [k1, k2, plI_r, oadd_none_r]; rfl
    · rw [h1, k1, h2, k2, plI_fin (by unfold infV; omega) (by unfold infV; omega)]; rfl

theorem add_bd (g : Good zs p inc) (k : Good ys q jnc) {s u : Nat} {x : Int} (h : oadd (eC zs p inc s) (eC ys q jnc u) = some x) : 0 ≤ x ∧ x ≤ 1073741824 * ((s : Int) + u + 2) := by
  obtain ⟨a, b, h1, h2, rfl⟩ := both_some h
  have := eC_bd g h1; have := eC_bd k h2; omega

theorem convTo_bd (g : Good zs p inc) (k : Good ys q jnc) {t n : Nat} (hn : n ≤ t + 1) {x : Int} (h : convTo (eC zs p inc) (eC ys q jnc) t n = some x) : 0 ≤ x ∧ x ≤ 1073741824 * ((t : Int) + 2) := by
  rcases convTo_found (a := eC zs p inc) (b := eC ys q jnc) (t := t) n with e | ⟨s, hs, e⟩
  · rw [e] at h; cases h
  · rw [e] at h; have := add_bd g k h; omega

theorem conv_bd (g : Good zs p inc) (k : Good ys q jnc) {t : Nat} {x : Int} (h : eConv zs p inc ys q jnc t = some x) : 0 ≤ x ∧ x ≤ 1073741824 * ((t : Int) + 2) := convTo_bd g k (Nat.le_refl _) h

theorem enc_omin {a b : Option Int} (ha : ∀ x, a = some x → x ≤ infV) (hb : ∀ x, b = some x → x ≤ infV) : enc (omin a b) = min (enc a) (enc b) := by
  cases a with
  | none => cases b with
    | none => show infV = min infV infV; omega
    | some y => have := hb y rfl; show y = min infV y; omega
  | some x => cases b with
    | none => have := ha x rfl; show x = min x infV; omega
    | some y => rfl

/-- One step of the search for the least sum. -/
theorem conv_step (g : Good zs p inc) (k : Good ys q jnc) {t s : Nat} (ht : t ≤ 100000) (hs : s ≤ t) :
    enc (convTo (eC zs p inc) (eC ys q jnc) t (s + 1)) = min (enc (convTo (eC zs p inc) (eC ys q jnc) t s)) (plI (atC zs p inc s) (atC ys q jnc (t - s))) := by
  rw [← enc_oadd g k (by omega) (by omega)]
  exact enc_omin (fun x h => by have := convTo_bd g k (by omega) h; unfold infV; omega) (fun x h => by have := add_bd g k h; unfold infV; omega)

theorem convTo_mid (g : Good zs p inc) (k : Good ys q jnc) {t s : Nat} (ht : t ≤ 100000) (hs : s ≤ t + 1) : Mid (enc (convTo (eC zs p inc) (eC ys q jnc) t s)) := by
  cases h : convTo (eC zs p inc) (eC ys q jnc) t s with
  | none => exact .inl rfl
  | some x => have := convTo_bd g k hs h; exact .inr ⟨this.1, by show x ≤ _; omega⟩

theorem conv_mid (g : Good zs p inc) (k : Good ys q jnc) {t : Nat} (ht : t ≤ 100000) : Mid (encF (eConv zs p inc ys q jnc) t) := convTo_mid g k ht (Nat.le_refl _)

theorem eC_down (g : Good zs p inc) {t : Nat} {x : Int} (h : eC zs p inc (t + 1) = some x) : ∃ y, eC zs p inc t = some y ∧ y ≤ x := by
  cases h1 : eC zs p inc t with
  | none => rw [eC_up g h1] at h; cases h
  | some y => exact ⟨y, rfl, eC_mono g h1 h⟩

theorem conv_down (g : Good zs p inc) (k : Good ys q jnc) (t : Nat) : ole (eConv zs p inc ys q jnc t) (eConv zs p inc ys q jnc (t + 1)) := by
  refine oconv_great fun s hs y hy => ?_
  obtain ⟨u, v, h1, h2, rfl⟩ := both_some hy
  by_cases h0 : s = 0
  · subst h0
    obtain ⟨w, hw, hl⟩ := eC_down k (t := t) (by rwa [show t + 1 - 0 = t + 1 by omega] at h2)
    obtain ⟨z, hz, hzl⟩ := oconv_le (a := eC zs p inc) (b := eC ys q jnc) (Nat.zero_le t) (u + w) (by rw [h1, show t - 0 = t by omega, hw]; rfl)
    exact ⟨z, hz, by omega⟩
  · obtain ⟨w, hw, hl⟩ := eC_down g (t := s - 1) (by rwa [show s - 1 + 1 = s by omega])
    obtain ⟨z, hz, hzl⟩ := oconv_le (a := eC zs p inc) (b := eC ys q jnc) (show s - 1 ≤ t by omega) (w + v) (by rw [hw, show t - (s - 1) = t + 1 - s by omega, h2]; rfl)
    exact ⟨z, hz, by omega⟩

theorem conv_up (g : Good zs p inc) (k : Good ys q jnc) {t : Nat} (h : eConv zs p inc ys q jnc t = none) : eConv zs p inc ys q jnc (t + 1) = none := by
  cases h1 : eConv zs p inc ys q jnc (t + 1) with
  | none => rfl
  | some y => obtain ⟨x, hx, _⟩ := conv_down g k t y h1; rw [h] at hx; cases hx

theorem growI_mul {L : Nat} (hf : ¬ InfC zs) : growI zs p inc L = inc * ((L / p : Nat) : Int) := by rw [growI_fin hf, Int.mul_comm]

theorem eC_zero (g : Good zs p inc) (h : atC zs p inc 0 = infV) (t : Nat) : eC zs p inc t = none := by
  have h0 : eC zs p inc 0 = none := eC_none.2 ⟨g.inf_at (by omega) h, h⟩
  have := stays (fun t h => eC_up g h) h0 t
  rwa [Nat.zero_add] at this

theorem conv_inf (g : Good zs p inc) (k : Good ys q jnc) (h : plI (atC zs p inc 0) (atC ys q jnc 0) = infV) (t : Nat) : eConv zs p inc ys q jnc t = none := by
  obtain ⟨s, _, e⟩ := oconv_found (a := eC zs p inc) (b := eC ys q jnc) t
  show oconv _ _ t = none
  rw [e]
  by_cases h1 : atC zs p inc 0 = infV
  · rw [eC_zero g h1, oadd_none_l]
  · by_cases h2 : atC ys q jnc 0 = infV
    · rw [eC_zero k h2, oadd_none_r]
    · have b1 := eC_cases g (t := 0) (by omega)
      have b2 := eC_cases k (t := 0) (by omega)
      rw [plI_fin h1 h2] at h
      unfold infV at *
      rcases b1 with ⟨_, b1⟩ | ⟨x, _, b1, b3, b4⟩
      · exact absurd b1 h1
      · rcases b2 with ⟨_, b2⟩ | ⟨y, _, b2, b5, b6⟩
        · exact absurd b2 h2
        · omega

/-- Both are infinite in the end: so is the convolution. -/
theorem conv_both (g : Good zs p inc) (k : Good ys q jnc) (h1 : InfC zs) (h2 : InfC ys) {t : Nat} (ht : zs.length - p + (ys.length - q) ≤ t + 1) : eConv zs p inc ys q jnc t = none := by
  obtain ⟨s, hs, e⟩ := oconv_found (a := eC zs p inc) (b := eC ys q jnc) t
  show oconv _ _ t = none
  have := (g.tailI h1).1; have := (k.tailI h2).1
  rw [e]
  by_cases h3 : zs.length - 1 ≤ s
  · rw [eC_late g h1 h3, oadd_none_l]
  · rw [eC_late k h2 (show ys.length - 1 ≤ t - s by omega), oadd_none_r]

theorem eC0_some (h : ¬ atC zs p inc 0 = infV) : eC zs p inc 0 = some (atC zs p inc 0) := by
  unfold eC; rw [if_neg fun hc => h hc.2]

/-- One is finite, the other one is not. -/
theorem conv_one' (g : Good zs p inc) (k : Good ys q jnc) (h1 : ¬ InfC zs) (h2 : InfC ys) (h0 : ¬ atC ys q jnc 0 = infV) {L sa : Nat} {ra : Int} (hx : Per (atC zs p inc) sa L ra) :
    (∀ t, ∃ c, eConv zs p inc ys q jnc t = some c) ∧ Per (encF (eConv zs p inc ys q jnc)) (sa + (ys.length - q)) L ra := by
  have hq := (k.tailI h2).1
  have hs : ∀ t, ∃ c, eConv zs p inc ys q jnc t = some c := fun t => by
    obtain ⟨c, hc, _⟩ := oconv_le (a := eC zs p inc) (b := eC ys q jnc) (Nat.le_refl t) (atC zs p inc t + atC ys q jnc 0) (by rw [eC_fin h1, show t - t = 0 by omega, eC0_some h0]; rfl)
    exact ⟨c, hc⟩
  have hfound : ∀ t, ∃ s v, s ≤ t ∧ eC ys q jnc (t - s) = some v ∧ t - s < ys.length - 1 ∧ encF (eConv zs p inc ys q jnc) t = atC zs p inc s + v := fun t => by
    obtain ⟨s, hs', e⟩ := oconv_found (a := eC zs p inc) (b := eC ys q jnc) t
    obtain ⟨c, hc⟩ := hs t
    have hc' : oconv (eC zs p inc) (eC ys q jnc) t = some c := hc
    rw [e] at hc'
    obtain ⟨u, v, e1, e2, rfl⟩ := both_some hc'
    rw [eC_fin h1] at e1
    cases e1
    refine ⟨s, v, hs', e2, Nat.lt_of_not_le fun hle => ?_, by rw [encF_some hc]⟩
    rw [eC_late k h2 hle] at e2; cases e2
  have hle : ∀ t s v, s ≤ t → eC ys q jnc (t - s) = some v → encF (eConv zs p inc ys q jnc) t ≤ atC zs p inc s + v := fun t s v hs' e => by
    obtain ⟨c, hc, hl⟩ := oconv_le (a := eC zs p inc) (b := eC ys q jnc) hs' (atC zs p inc s + v) (by rw [eC_fin h1, e]; rfl)
    rw [encF_some (show eConv zs p inc ys q jnc t = some c from hc)]; exact hl
  refine ⟨hs, fun t ht => ?_⟩
  obtain ⟨s, v, s1, s2, s3, s4⟩ := hfound t
  obtain ⟨s', v', r1, r2, r3, r4⟩ := hfound (t + L)
  have a1 := hle (t + L) (s + L) v (by omega) (by rwa [show t + L - (s + L) = t - s by omega])
  have a2 := hx s (by omega)
  have b1 := hle t (s' - L) v' (by omega) (by rwa [show t - (s' - L) = t + L - s' by omega])
  have b2 := hx (s' - L) (by omega)
  rw [show s' - L + L = s' by omega] at b2
  omega

theorem conv_one (g : Good zs p inc) (k : Good ys q jnc) (h1 : ¬ InfC zs) (h2 : InfC ys) (h0 : ¬ atC ys q jnc 0 = infV) {L : Nat} (hd : L / p * p = L) :
    (∀ t, ∃ c, eConv zs p inc ys q jnc t = some c) ∧ Per (encF (eConv zs p inc ys q jnc)) (zs.length - p + (ys.length - q)) L (inc * ((L / p : Nat) : Int)) :=
  conv_one' g k h1 h2 h0 (g.perM h1 hd (Nat.le_refl _))

theorem conv_fin (h1 : ¬ InfC zs) (h2 : ¬ InfC ys) : (∀ t, ∃ c, eConv zs p inc ys q jnc t = some c) ∧ Conv (atC zs p inc) (atC ys q jnc) (encF (eConv zs p inc ys q jnc)) := by
  have hs : ∀ t, ∃ c, eConv zs p inc ys q jnc t = some c := fun t => by
    obtain ⟨s, _, e⟩ := oconv_found (a := eC zs p inc) (b := eC ys q jnc) t
    exact ⟨_, by show oconv _ _ t = _; rw [e, eC_fin h1, eC_fin h2]; rfl⟩
  refine ⟨hs, fun t s hst => ?_, fun t => ?_⟩
  · obtain ⟨c, hc, hl⟩ := oconv_le (a := eC zs p inc) (b := eC ys q jnc) hst (atC zs p inc s + atC ys q jnc (t - s)) (by rw [eC_fin h1, eC_fin h2]; rfl)
    rw [encF_some (show eConv zs p inc ys q jnc t = some c from hc)]; exact hl
  · obtain ⟨s, hst, e⟩ := oconv_found (a := eC zs p inc) (b := eC ys q jnc) t
    refine ⟨s, hst, ?_⟩
    rw [eC_fin h1, eC_fin h2] at e
    exact encF_some (show eConv zs p inc ys q jnc t = some _ from e)

/-- The curve grows like this in the end. -/
theorem conv_late (g : Good zs p inc) (k : Good ys q jnc) (h1 : ¬ InfC zs) (h2 : ¬ InfC ys) {L : Nat} (hL : Mult p q L) : ∃ S, Per (encF (eConv zs p inc ys q jnc)) S L (min (inc * ((L / p : Nat) : Int)) (jnc * ((L / q : Nat) : Int))) :=
  (conv_fin h1 h2).2.late (g.perM h1 hL.dp (Nat.le_refl _)) (k.perM h2 hL.dq (Nat.le_refl _)) hL.one (fun t => (g.bd h1 t).1) (fun t => (k.bd h2 t).1) (fun t n => g.up n t) (fun t n => k.up n t)

theorem encF_eC (zs : List Int) (p : Nat) (inc : Int) : encF (eC zs p inc) = atC zs p inc := funext fun t => enc_eC zs p inc t

end Go.Proofs.Ythljhddnfflpjaa

namespace Go.Proofs.Ythljhddnfflpjaa
set_option linter.unusedVariables false

variable {zs ys hs : List Int} {p q r : Nat} {inc jnc knc : Int}

theorem eform_at (h : EForm hs r knc (eConv zs p inc ys q jnc)) (t : Nat) : atC hs r knc t = encF (eConv zs p inc ys q jnc) t := by
  rw [← enc_eC hs r knc t, h.2.1 t]; rfl

theorem inf_of_none (g : Good hs r knc) {t : Nat} (h : eC hs r knc t = none) : InfC hs := (eC_none.1 h).1

theorem fin_of_some (g : Good hs r knc) (h : ∀ t, ∃ c, eC hs r knc t = some c) : ¬ InfC hs := fun hi => by
  obtain ⟨c, hc⟩ := h 400
  rw [eC_400 g hi (by omega)] at hc; cases hc

/-- The convolution's curve: how much it grows in L ticks, and that its period divides L. -/
theorem form_grow (g : Good zs p inc) (k : Good ys q jnc) (h : EForm hs r knc (eConv zs p inc ys q jnc)) {L : Nat} (hL : Mult p q L) (hL2 : L ≤ 120) :
    growI hs r knc L = convG zs p inc ys q jnc L ∧ L % r = 0 ∧ (¬ InfC hs → ∃ G, convG zs p inc ys q jnc L = G ∧ Per (atC hs r knc) (hs.length - r) L G) := by
  obtain ⟨m, he, s, hl, hn⟩ := h
  have hat := eform_at ⟨m, he, s, hl, hn⟩
  have hinf : ∀ t, eConv zs p inc ys q jnc t = none → convG zs p inc ys q jnc L = infV → growI hs r knc L = convG zs p inc ys q jnc L ∧ L % r = 0 ∧ (¬ InfC hs → ∃ G, convG zs p inc ys q jnc L = G ∧ Per (atC hs r knc) (hs.length - r) L G) := fun t h1 h2 => by
    have hi : InfC hs := inf_of_none m (t := t) (by rw [he, h1])
    rw [h2, growI_inf hi, (m.tailI hi).1]
    exact ⟨rfl, Nat.mod_one _, fun h => absurd hi h⟩
  have hfin : (∀ t, ∃ c, eConv zs p inc ys q jnc t = some c) → (∃ S, Per (encF (eConv zs p inc ys q jnc)) S L (convG zs p inc ys q jnc L)) → growI hs r knc L = convG zs p inc ys q jnc L ∧ L % r = 0 ∧ (¬ InfC hs → ∃ G, convG zs p inc ys q jnc L = G ∧ Per (atC hs r knc) (hs.length - r) L G) := fun h1 h2 => by
    have hf : ¬ InfC hs := fin_of_some m fun t => by rw [he]; exact h1 t
    obtain ⟨S, hS⟩ := h2
    rw [show encF (eConv zs p inc ys q jnc) = atC hs r knc from (funext hat).symm] at hS
    obtain ⟨d1, d2⟩ := hn.divides hS
    refine ⟨by rw [growI_fin hf, d2], d1, fun _ => ⟨_, rfl, ?_⟩⟩
    exact hn.per.mono (show s ≤ hs.length - r by omega) |>.any hn.pos hS
  by_cases h0 : plI (atC zs p inc 0) (atC ys q jnc 0) = infV
  · exact hinf 0 (conv_inf g k h0 0) (by unfold convG; rw [if_pos h0])
  have hG : convG zs p inc ys q jnc L = min (growI zs p inc L) (growI ys q jnc L) := by unfold convG; rw [if_neg h0]
  obtain ⟨b1, b2⟩ := grow_bd g hL2
  obtain ⟨b3, b4⟩ := grow_bd k hL2
  by_cases h1 : InfC zs
  · by_cases h2 : InfC ys
    · exact hinf 1000 (conv_both g k h1 h2 (by have := g.few; have := k.few; omega)) (by rw [hG, growI_inf h1, growI_inf h2]; omega)
    · obtain ⟨c1, c2⟩ := conv_one k g h2 h1 (fun e => h0 (by rw [e, plI_l])) hL.dq
      rw [← eConv_comm] at c1 c2
      exact hfin c1 ⟨_, by rw [hG, growI_inf h1, growI_mul h2, show min infV (jnc * ((L / q : Nat) : Int)) = jnc * ((L / q : Nat) : Int) by unfold infV; omega]; exact c2⟩
  by_cases h2 : InfC ys
  · obtain ⟨c1, c2⟩ := conv_one g k h1 h2 (fun e => h0 (by rw [e, plI_r])) hL.dp
    exact hfin c1 ⟨_, by rw [hG, growI_inf h2, growI_mul h1, show min (inc * ((L / p : Nat) : Int)) infV = inc * ((L / p : Nat) : Int) by unfold infV; omega]; exact c2⟩
  · obtain ⟨S, hS⟩ := conv_late g k h1 h2 hL
    exact hfin (conv_fin h1 h2).1 ⟨S, by rw [hG, growI_mul h1, growI_mul h2]; exact hS⟩

/-- The horizon of two curves and their convolution. -/
def hori (sa sb sh L : Nat) : Nat := max (sa + sb) sh + L

/-- A tick attains a value, and repeats if it must. -/
def AttP (zs : List Int) (p : Nat) (inc : Int) (ys : List Int) (q : Nat) (jnc : Int) (hs : List Int) (r : Nat) (knc : Int) (L s t : Nat) : Prop :=
  s ≤ t ∧ plI (atC zs p inc s) (atC ys q jnc (t - s)) = atC hs r knc t ∧
  (t < hori (zs.length - p) (ys.length - q) (hs.length - r) L ∨ atC hs r knc t = infV ∨ (growI zs p inc L = growI hs r knc L ∧ zs.length - p ≤ s) ∨ (growI ys q jnc L = growI hs r knc L ∧ ys.length - q ≤ t - s))

theorem att_ex (g : Good zs p inc) (k : Good ys q jnc) (h : EForm hs r knc (eConv zs p inc ys q jnc)) {L : Nat} (hL : Mult p q L) (hL2 : L ≤ 120) {t : Nat} (ht : t ≤ 100000) :
    ∃ s, AttP zs p inc ys q jnc hs r knc L s t := by
  obtain ⟨e1, _, e3⟩ := form_grow g k h hL hL2
  have hat := eform_at h
  obtain ⟨s, hs', e⟩ := oconv_found (a := eC zs p inc) (b := eC ys q jnc) t
  have e' : eConv zs p inc ys q jnc t = oadd (eC zs p inc s) (eC ys q jnc (t - s)) := e
  have hv : plI (atC zs p inc s) (atC ys q jnc (t - s)) = atC hs r knc t := by
    rw [← enc_oadd g k (by omega) (by omega), hat t, ← e']; rfl
  refine ⟨s, hs', hv, ?_⟩
  by_cases c1 : t < hori (zs.length - p) (ys.length - q) (hs.length - r) L
  · exact .inl c1
  by_cases c2 : atC hs r knc t = infV
  · exact .inr (.inl c2)
  refine .inr (.inr ?_)
  have hf : ¬ InfC hs := fun hi => c2 (by
    have := h.1.few; have := (h.1.tailI hi).1
    unfold hori at c1
    exact atC_inf hi (by omega) (by have := h.1.p3; omega))
  obtain ⟨G, hG, hP⟩ := e3 hf
  rw [hG] at e1
  rw [e1]
  unfold hori at c1
  have hL1 := hL.one
  have hpt := hP (t - L) (by omega)
  rw [show t - L + L = t by omega] at hpt
  by_cases h0 : plI (atC zs p inc 0) (atC ys q jnc 0) = infV
  · exact absurd (by rw [h.2.1]; exact conv_inf g k h0 0 : eC hs r knc 0 = none) (by rw [eC_fin hf]; simp)
  have hmin : min (growI zs p inc L) (growI ys q jnc L) = G := by rw [← hG]; unfold convG; rw [if_neg h0]
  -- the values are finite
  have hz : ¬ atC zs p inc s = infV := fun hi => c2 (by rw [← hv, hi, plI_l])
  have hy : ¬ atC ys q jnc (t - s) = infV := fun hi => c2 (by rw [← hv, hi, plI_r])
  rw [plI_fin hz hy] at hv
  by_cases h1 : InfC zs
  · have s1 : s < zs.length - p := Nat.lt_of_not_le fun hle => hz (atC_inf h1 (by have := (g.tailI h1).1; omega) (by have := g.p3; have := g.p1; omega))
    have h2 : ¬ InfC ys := fun hi => hy (atC_inf hi (by have := (k.tailI hi).1; omega) (by have := k.p3; have := k.p1; omega))
    obtain ⟨b3, b4⟩ := grow_bd k hL2
    rw [growI_inf h1, growI_mul h2] at hmin
    refine .inr ⟨by rw [growI_mul h2]; unfold infV at hmin; omega, by omega⟩
  by_cases h2 : InfC ys
  · have s1 : t - s < ys.length - q := Nat.lt_of_not_le fun hle => hy (atC_inf h2 (by have := (k.tailI h2).1; omega) (by have := k.p3; have := k.p1; omega))
    obtain ⟨b3, b4⟩ := grow_bd g hL2
    rw [growI_inf h2, growI_mul h1] at hmin
    refine .inl ⟨by rw [growI_mul h1]; unfold infV at hmin; omega, by omega⟩
  have hx := g.perM h1 hL.dp (Nat.le_refl _)
  have hyP := k.perM h2 hL.dq (Nat.le_refl _)
  obtain ⟨_, hc⟩ := conv_fin (p := p) (inc := inc) (q := q) (jnc := jnc) h1 h2
  rw [growI_mul h1, growI_mul h2] at hmin ⊢
  generalize inc * ((L / p : Nat) : Int) = ra at *
  generalize jnc * ((L / q : Nat) : Int) = rb at *
  by_cases d1 : zs.length - p ≤ s
  · by_cases d2 : ys.length - q ≤ t - s
    · rcases Int.le_total ra rb with hh | hh
      · exact .inl ⟨by omega, d1⟩
      · exact .inr ⟨by omega, d2⟩
    · refine .inl ⟨?_, d1⟩
      have := hx (s - L) (by omega)
      rw [show s - L + L = s by omega] at this
      have h5 := hc.le (t - L) (s - L) (by omega)
      rw [← hat, show t - L - (s - L) = t - s by omega] at h5
      omega
  · refine .inr ⟨?_, by omega⟩
    have := hyP (t - s - L) (by omega)
    rw [show t - s - L + L = t - s by omega] at this
    have h5 := hc.le (t - L) s (by omega)
    rw [← hat, show t - L - s = t - s - L by omega] at h5
    omega

/-- The convolution is at most every sum. -/
theorem below_ex (g : Good zs p inc) (k : Good ys q jnc) (h : EForm hs r knc (eConv zs p inc ys q jnc)) {s u : Nat} (hs1 : s ≤ 2000) (hu : u ≤ 2000) : atC hs r knc (s + u) ≤ plI (atC zs p inc s) (atC ys q jnc u) := by
  rw [eform_at h, ← enc_oadd g k (by omega) (by omega)]
  have hle := oconv_le (a := eC zs p inc) (b := eC ys q jnc) (show s ≤ s + u by omega)
  rw [show s + u - s = u by omega] at hle
  cases hc : oadd (eC zs p inc s) (eC ys q jnc u) with
  | none =>
    have := (conv_mid g k (t := s + u) (by omega))
    unfold Mid at this
    show _ ≤ infV
    rcases this with e | ⟨_, e⟩
    · omega
    · unfold infV; omega
  | some y =>
    obtain ⟨x, hx, hxl⟩ := hle y hc
    rw [encF_some (show eConv zs p inc ys q jnc (s + u) = some x from hx)]; exact hxl

end Go.Proofs.Ythljhddnfflpjaa
