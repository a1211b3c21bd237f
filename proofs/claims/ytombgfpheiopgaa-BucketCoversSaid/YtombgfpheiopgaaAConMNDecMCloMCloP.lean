/- Mathematics of the convolution of two curves, without the program. By the verifier's side. | Mathematics of the certificates of a convolution, without the program. By the verifier's side. -/
import Derived.Test.YtombgfpheiopgaaAPwMPwOPwXR56M
namespace Go.Proofs.Ytombgfpheiopgaa
set_option linter.unusedVariables false

/-! ### The convolution of two functions with infinity -/

def convTo (a b : Nat → Option Int) (t : Nat) : Nat → Option Int
  | 0 => none
  | k + 1 => omin (convTo a b t k) (oadd (a k) (b (t - k)))
def oconv (a b : Nat → Option Int) (t : Nat) : Option Int := convTo a b t (t + 1)

theorem ole_oadd2 {a b c d : Option Int} (h : ole a c) (k : ole b d) : ole (oadd a b) (oadd c d) := fun y hy => by
  obtain ⟨u, v, rfl, rfl, rfl⟩ := both_some hy
  obtain ⟨x, rfl, hx⟩ := h u rfl
  obtain ⟨z, rfl, hz⟩ := k v rfl
  exact ⟨x + z, rfl, by omega⟩

variable {a b c a' b' : Nat → Option Int}

/-! ### Two finite functions -/

structure Conv (x y C : Nat → Int) : Prop where
  le : ∀ t s, s ≤ t → C t ≤ x s + y (t - s)
  found : ∀ t, ∃ s, s ≤ t ∧ C t = x s + y (t - s)

variable {x y C : Nat → Int} {sa sb L : Nat} {ra rb : Int}

theorem Conv.comm (h : Conv x y C) : Conv y x C := by
  refine ⟨fun t s hs => ?_, fun t => ?_⟩
  · have := h.le t (t - s) (by omega)
    rw [show t - (t - s) = s by omega] at this; omega
  · obtain ⟨s, hs, e⟩ := h.found t
    exact ⟨t - s, by omega, by rw [show t - (t - s) = s by omega]; omega⟩

theorem Conv.lower (h : Conv x y C) (hx : Per x sa L ra) (hy : Per y sb L rb) {t : Nat} (ht : sa + sb + L ≤ t + 1) : C t + min ra rb ≤ C (t + L) := by
  obtain ⟨s, hs, e⟩ := h.found (t + L)
  by_cases h1 : sa + L ≤ s
  · have e1 := hx (s - L) (by omega)
    rw [show s - L + L = s by omega] at e1
    have := h.le t (s - L) (by omega)
    rw [show t - (s - L) = t + L - s by omega] at this
    omega
  · have e1 := hy (t - s) (by omega)
    have := h.le t s (by omega)
    rw [show t - s + L = t + L - s by omega] at e1
    omega

theorem Conv.upper (h : Conv x y C) (hx : Per x sa L ra) {t s : Nat} (hs : s ≤ t) (h1 : sa ≤ s) (e : C t = x s + y (t - s)) : C (t + L) ≤ C t + ra := by
  have := h.le (t + L) (s + L) (by omega)
  rw [show t + L - (s + L) = t - s by omega, hx s h1] at this
  omega

theorem Conv.upper' (h : Conv x y C) (hy : Per y sb L rb) {t s : Nat} (hs : s ≤ t) (h1 : sb ≤ t - s) (e : C t = x s + y (t - s)) : C (t + L) ≤ C t + rb := by
  have := h.le (t + L) s (by omega)
  rw [show t + L - s = t - s + L by omega, hy (t - s) h1] at this
  omega

theorem Conv.from1 (h : Conv x y C) (hx : Per x sa L ra) (hy : Per y sb L rb) (hlt : ra ≤ rb) {t : Nat} (ht : sa + sb ≤ t) (hc : C (t + L) = C t + ra) : C (t + L + L) ≤ C (t + L) + ra := by
  obtain ⟨s, hs, e⟩ := h.found (t + L)
  by_cases h3 : sa ≤ s
  · exact h.upper hx hs h3 e
  · have h5 := h.upper' hy hs (by omega) e
    have e1 := hy (t - s) (by omega)
    rw [show t - s + L = t + L - s by omega] at e1
    have := h.le t s (by omega)
    omega

/-- The test of one period behind both starts and one common period tells it for all ticks. -/
theorem Conv.all (h : Conv x y C) (hx : Per x sa L ra) (hy : Per y sb L rb) (hL : 1 ≤ L) {S : Nat} (hS : sa + sb + L ≤ S) (hc : ∀ t, S ≤ t → t < S + L → C (t + L) = C t + min ra rb) : Per C S L (min ra rb) := by
  intro t
  induction t using Nat.strongRecOn with
  | _ t ih =>
    intro ht
    by_cases hlt : t < S + L
    · exact hc t ht hlt
    · have e := ih (t - L) (by omega) (by omega)
      rw [show t - L + L = t by omega] at e
      have h1 := h.lower hx hy (t := t) (by omega)
      have h2 : C (t + L) ≤ C t + min ra rb := by
        rcases Int.le_total ra rb with hle | hle
        · rw [show min ra rb = ra by omega] at e ⊢
          have := h.from1 hx hy hle (t := t - L) (by omega) (by rw [show t - L + L = t by omega]; exact e)
          rwa [show t - L + L = t by omega] at this
        · rw [show min ra rb = rb by omega] at e ⊢
          have := h.comm.from1 hy hx hle (t := t - L) (by omega) (by rw [show t - L + L = t by omega]; exact e)
          rwa [show t - L + L = t by omega] at this
      omega

/-! ### The convolution of two curves -/

variable {zs ys : List Int} {p q : Nat} {inc jnc : Int}

noncomputable def eConv (zs : List Int) (p : Nat) (inc : Int) (ys : List Int) (q : Nat) (jnc : Int) : Nat → Option Int := oconv (eC zs p inc) (eC ys q jnc)
theorem at_mid2 (g : Good zs p inc) {t : Nat} (ht : t ≤ 100000) : Mid (atC zs p inc t) := by
  rcases eC_cases g (show t ≤ 1048576 by omega) with ⟨_, h2⟩ | ⟨x, _, h2, h3, h4⟩
  · exact .inl h2
  · exact .inr (by rw [h2]; exact ⟨h3, by omega⟩)

theorem growI_mul {L : Nat} (hf : ¬ InfC zs) : growI zs p inc L = inc * ((L / p : Nat) : Int) := by rw [growI_fin hf, Int.mul_comm]

end Go.Proofs.Ytombgfpheiopgaa

namespace Go.Proofs.Ytombgfpheiopgaa
set_option linter.unusedVariables false

variable {zs ys hs : List Int} {p q r : Nat} {inc jnc knc : Int}

end Go.Proofs.Ytombgfpheiopgaa

namespace Go.Proofs.Ytombgfpheiopgaa
set_option linter.unusedVariables false

section
variable {a a' b b' c : Nat → Option Int} {t : Nat}

/-- v is at least every difference at the tick t. -/
def UB (a b : Nat → Option Int) (t : Nat) (v : Option Int) : Prop := ∀ u y, b u = some y → ole (a (t + u)) (oadd v (some y))
def IsSup (a b : Nat → Option Int) (t : Nat) (v : Option Int) : Prop := UB a b t v ∧ ∀ v', UB a b t v' → ole v v'

theorem UB.mono {v v' : Option Int} (h : UB a b t v) (k : ole v v') : UB a b t v' := fun u y hy => ole_trans (h u y hy) (ole_oadd2 k (ole_refl _))
theorem IsSup.unique {v v' : Option Int} (h : IsSup a b t v) (k : IsSup a b t v') : v = v' := ole_anti (h.2 _ k.1) (k.2 _ h.1)

theorem sup_ex (h0 : b 0 = some 0) (t : Nat) : ∃ v, IsSup a b t v := by
  by_cases h : ∃ x, UB a b t (some x)
  · obtain ⟨x, hx⟩ := h
    obtain ⟨z, hz, hzx⟩ := hx 0 0 h0 _ rfl
    have key : ∀ n (x : Int), UB a b t (some x) → (x - z).toNat ≤ n → ∃ v, IsSup a b t v := by
      intro n
      induction n with
      | zero =>
        intro x hx hn
        refine ⟨some x, hx, fun v' hv => ?_⟩
        cases v' with
        | none => exact ole_none _
        | some x' =>
          obtain ⟨z2, hz2, hz3⟩ := hv 0 0 h0 _ rfl
          rw [hz] at hz2; cases hz2
          exact ole_some (by omega)
      | succ n ih =>
        intro x hx hn
        by_cases hl : ∃ x', x' < x ∧ UB a b t (some x')
        · obtain ⟨x', hl, hx'⟩ := hl
          obtain ⟨z2, hz2, hz3⟩ := hx' 0 0 h0 _ rfl
          rw [hz] at hz2; cases hz2
          exact ih x' hx' (by omega)
        · refine ⟨some x, hx, fun v' hv => ?_⟩
          cases v' with
          | none => exact ole_none _
          | some x' => exact ole_some (Int.not_lt.1 fun hlt => hl ⟨x', hlt, hv⟩)
    exact key _ x hx (Nat.le_refl _)
  · exact ⟨none, fun u y hy => by rw [oadd_none_l]; exact ole_none _, fun v' hv => by
      cases v' with
      | none => exact ole_none _
      | some x => exact absurd ⟨x, hv⟩ h⟩

open Classical in
/-- The deconvolution. -/
noncomputable def oDec (a b : Nat → Option Int) (t : Nat) : Option Int := if h : ∃ v, IsSup a b t v then Classical.choose h else none
theorem dec_is (h0 : b 0 = some 0) (t : Nat) : IsSup a b t (oDec a b t) := by
  unfold oDec; rw [dif_pos (sup_ex h0 t)]; exact Classical.choose_spec (sup_ex h0 t)
theorem dec_eq (h0 : b 0 = some 0) {v : Option Int} (h : IsSup a b t v) : oDec a b t = v := (dec_is h0 t).unique h
theorem dec_le_iff (h0 : b 0 = some 0) {v : Option Int} : ole (oDec a b t) v ↔ UB a b t v := ⟨fun h => (dec_is h0 t).1.mono h, fun h => (dec_is h0 t).2 _ h⟩

theorem oadd_zero (v : Option Int) : oadd v (some 0) = v := by
  cases v with
  | none => rfl
  | some x => show some (x + 0) = some x; rw [Int.add_zero]
theorem dec_self (h0 : b 0 = some 0) (t : Nat) : ole (a t) (oDec a b t) := by
  have := (dec_is (a := a) h0 t).1 0 0 h0
  rwa [oadd_zero] at this

theorem dec_upward (h0 : b 0 = some 0) (h : ∀ t, ole (a t) (a (t + 1))) (t : Nat) : ole (oDec a b t) (oDec a b (t + 1)) :=
  (dec_le_iff h0).2 fun u y hy => by
    have := (dec_is (a := a) h0 (t + 1)).1 u y hy
    rw [show t + 1 + u = t + u + 1 by omega] at this
    exact ole_trans (h _) this

end

/-! ## What the program computes -/

/-- How far the first function is ahead, u ticks later, of the second one. -/
def gainI (F G : Nat → Int) (t u : Nat) : Int := if F (t + u) = infV then infV else F (t + u) - G u
/-- The greatest one of so many, and 0. -/
def mostTo (F G : Nat → Int) (t : Nat) : Nat → Int
  | 0 => 0
  | n + 1 => max (mostTo F G t n) (gainI F G t n)

theorem mostTo_nn (F G : Nat → Int) (t : Nat) : ∀ n, 0 ≤ mostTo F G t n
  | 0 => Int.le_refl _
  | n + 1 => by have := mostTo_nn F G t n; unfold mostTo; omega
theorem mostTo_le {F G : Nat → Int} {t u : Nat} : ∀ {n : Nat}, u < n → gainI F G t u ≤ mostTo F G t n
  | 0, h => absurd h (Nat.not_lt_zero _)
  | n + 1, h => by
    unfold mostTo
    by_cases e : u = n
    · subst e; omega
    · have := mostTo_le (F := F) (G := G) (t := t) (show u < n by omega); omega
theorem mostTo_found (F G : Nat → Int) (t : Nat) : ∀ n, mostTo F G t n = 0 ∨ ∃ u, u < n ∧ gainI F G t u = mostTo F G t n
  | 0 => .inl rfl
  | n + 1 => by
    by_cases h : mostTo F G t n < gainI F G t n
    · exact .inr ⟨n, by omega, by unfold mostTo; omega⟩
    · have e : mostTo F G t (n + 1) = mostTo F G t n := by show max _ _ = _; omega
      rw [e]
      rcases mostTo_found F G t n with h1 | ⟨u, h1, h2⟩
      · exact .inl h1
      · exact .inr ⟨u, by omega, h2⟩

/-- The greatest one is attained, if the first one is not negative. -/
theorem mostTo_at {F G : Nat → Int} {t n : Nat} (hn : 1 ≤ n) (h0 : 0 ≤ F t) (hG : G 0 = 0) : ∃ u, u < n ∧ gainI F G t u = mostTo F G t n := by
  rcases mostTo_found F G t n with h | h
  · refine ⟨0, by omega, ?_⟩
    have := mostTo_le (F := F) (G := G) (t := t) (show 0 < n by omega)
    rw [h] at this ⊢
    unfold gainI at this ⊢
    rw [Nat.add_zero, hG] at this ⊢
    split at this <;> rename_i e
    · unfold infV at this; omega
    · rw [if_neg e]; omega
  · exact h

/-- The greatest one, told by its properties. -/
theorem mostTo_eq {F G : Nat → Int} {t n : Nat} {v : Int} (hn : 1 ≤ n) (h0 : 0 ≤ F t) (hG : G 0 = 0) (h1 : ∃ u, u < n ∧ gainI F G t u = v) (h2 : ∀ u, u < n → gainI F G t u ≤ v) : mostTo F G t n = v := by
  obtain ⟨u, hu, e⟩ := mostTo_at (F := F) (G := G) (t := t) hn h0 hG
  obtain ⟨u2, hu2, e2⟩ := h1
  have k1 := h2 u hu
  have k2 := mostTo_le (F := F) (G := G) (t := t) hu2
  omega

theorem mostTo_inf {F G : Nat → Int} {t n u : Nat} (hu : u < n) (h : F (t + u) = infV) (hb : ∀ u, u < n → gainI F G t u ≤ infV) : mostTo F G t n = infV := by
  have h1 := mostTo_le (F := F) (G := G) (t := t) hu
  have e : gainI F G t u = infV := by unfold gainI; rw [if_pos h]
  rcases mostTo_found F G t n with h2 | ⟨u2, h2, h3⟩
  · rw [e, h2] at h1; unfold infV at h1; omega
  · have := hb u2 h2; omega

section
variable {zs ys hs : List Int} {p q r : Nat} {inc jnc knc : Int}

noncomputable def eDec (zs : List Int) (p : Nat) (inc : Int) (ys : List Int) (q : Nat) (jnc : Int) : Nat → Option Int := oDec (eC zs p inc) (eC ys q jnc)

/-- Without bound: the first one grows faster. -/
def Steep (zs : List Int) (p : Nat) (inc : Int) (ys : List Int) (q : Nat) (jnc : Int) (L : Nat) : Prop := ¬ InfC zs ∧ ¬ InfC ys ∧ growI ys q jnc L < growI zs p inc L

/-- The reach. -/
noncomputable def reach (zs : List Int) (p : Nat) (ys : List Int) (q : Nat) (L : Nat) : Nat :=
  open Classical in if InfC ys then ys.length - 1 else max (zs.length - p) (ys.length - q) + L

theorem reach_inf {L : Nat} (h : InfC ys) : reach zs p ys q L = ys.length - 1 := by unfold reach; rw [if_pos h]
theorem reach_fin {L : Nat} (h : ¬ InfC ys) : reach zs p ys q L = max (zs.length - p) (ys.length - q) + L := by unfold reach; rw [if_neg h]

theorem eC_mono1 (g : Good zs p inc) (t : Nat) : ole (eC zs p inc t) (eC zs p inc (t + 1)) := fun y hy => by
  cases h : eC zs p inc t with
  | none => rw [eC_up g h] at hy; cases hy
  | some x => exact ⟨x, rfl, eC_mono g h hy⟩
theorem eC_zero0 (g : Good ys q jnc) (h : atC ys q jnc 0 = 0) : eC ys q jnc 0 = some 0 := by
  unfold eC; rw [h, if_neg]; rintro ⟨_, e⟩; unfold infV at e; omega

/-- Below the reach the second curve is finite, at and behind it it is not, in a normal form. -/
theorem norm_inf (g : Good ys q jnc) (hi : InfC ys) (hn : ∃ s, ys.length = s + q ∧ NormOf (atC ys q jnc) s q jnc) (u : Nat) : (u < ys.length - 1 → ∃ y, eC ys q jnc u = some y) ∧ (ys.length - 1 ≤ u → eC ys q jnc u = none) := by
  refine ⟨fun hu => ?_, fun hu => eC_late g hi hu⟩
  cases h : eC ys q jnc u with
  | some y => exact ⟨y, rfl⟩
  | none =>
    exfalso
    obtain ⟨s, hs, hn⟩ := hn
    obtain ⟨rfl, rfl⟩ := g.tailI hi
    have hall : ∀ k, atC ys 1 0 (u + k) = infV := fun k => (eC_none.1 (stays (fun t ht => eC_up g ht) h k)).2
    have hp : Per (atC ys 1 0) u 1 0 := fun t ht => by
      rw [show t = u + (t - u) by omega, hall, show u + (t - u) + 1 = u + (t - u + 1) by omega, hall]; omega
    have := hn.start_le hp (by omega)
    omega

theorem not_steep {L : Nat} (hs : ¬ Steep zs p inc ys q jnc L) (f1 : ¬ InfC zs) (f2 : ¬ InfC ys) : growI zs p inc L ≤ growI ys q jnc L := Int.not_lt.1 fun h => hs ⟨f1, f2, h⟩

/-- The first curve is finite and not faster: the bound is attained below the reach. -/
theorem dec_fin (g : Good zs p inc) (k : Good ys q jnc) (h0 : atC ys q jnc 0 = 0) (hn : ∃ s, ys.length = s + q ∧ NormOf (atC ys q jnc) s q jnc) {L : Nat} (hL : Mult p q L) (h : ¬ Steep zs p inc ys q jnc L) (f1 : ¬ InfC zs) (t : Nat) :
    ∃ v, eDec zs p inc ys q jnc t = some v ∧ (∃ u, u < reach zs p ys q L ∧ atC zs p inc (t + u) - atC ys q jnc u = v) ∧ (∀ u, u < reach zs p ys q L → atC zs p inc (t + u) - atC ys q jnc u ≤ v) := by
  have h00 := eC_zero0 k h0
  have hL1 := hL.one
  -- the greatest difference of the first n
  have ex : ∀ n, 1 ≤ n → ∃ v, (∃ u, u < n ∧ atC zs p inc (t + u) - atC ys q jnc u = v) ∧ ∀ u, u < n → atC zs p inc (t + u) - atC ys q jnc u ≤ v := fun n hn => by
    induction n with
    | zero => omega
    | succ n ih =>
      by_cases h1 : 1 ≤ n
      · obtain ⟨v, ⟨u, hu, e⟩, hv⟩ := ih h1
        by_cases hx : v < atC zs p inc (t + n) - atC ys q jnc n
        · refine ⟨_, ⟨n, by omega, rfl⟩, fun u hu => ?_⟩
          by_cases e : u = n
          · subst e; omega
          · have := hv u (by omega); omega
        · refine ⟨v, ⟨u, by omega, e⟩, fun u hu => ?_⟩
          by_cases e : u = n
          · subst e; omega
          · exact hv u (by omega)
      · exact ⟨_, ⟨0, by omega, rfl⟩, fun u hu => by rw [show u = 0 by omega]; omega⟩
  have hR : 1 ≤ reach zs p ys q L := by
    by_cases f2 : InfC ys
    · rw [reach_inf f2]
      rcases Nat.lt_or_ge 1 ys.length with h1 | h1
      · omega
      · exfalso
        have e : ys.length - 1 = 0 := by omega
        have f3 := f2
        unfold InfC at f3
        rw [e] at f3
        have := k.p1; have := k.p3
        rw [atC_lt (by omega), f3] at h0
        unfold infV at h0; omega
    · rw [reach_fin f2]; omega
  obtain ⟨v, ⟨u, hu, e⟩, hv⟩ := ex _ hR
  have hy : ∀ u, u < reach zs p ys q L → eC ys q jnc u = some (atC ys q jnc u) := fun u hu => by
    by_cases f2 : InfC ys
    · rw [reach_inf f2] at hu
      obtain ⟨y, hy⟩ := (norm_inf k f2 hn u).1 hu
      rw [hy, (eC_bd k hy).2.2]
    · exact eC_fin f2 q jnc u
  refine ⟨v, dec_eq h00 ⟨fun u' y hy' => ?_, fun v' hv' => ?_⟩, ⟨u, hu, e⟩, hv⟩
  · have key : ∀ n u', u' ≤ n → ∀ y, eC ys q jnc u' = some y → atC zs p inc (t + u') - y ≤ v := by
      intro n
      induction n with
      | zero =>
        intro u' hu' y hy'
        have := hy u' (by omega); rw [hy'] at this; cases this
        exact hv u' (by omega)
      | succ n ih =>
        intro u' hu' y hy'
        by_cases hr : u' < reach zs p ys q L
        · have := hy u' hr; rw [hy'] at this; cases this
          exact hv u' hr
        · by_cases f2 : InfC ys
          · rw [reach_inf f2] at hr
            rw [(norm_inf k f2 hn u').2 (by omega)] at hy'; cases hy'
          · rw [reach_fin f2] at hr
            have hle := not_steep h f1 f2
            rw [growI_mul f1, growI_mul f2] at hle
            have P1 := g.perM f1 hL.dp (Nat.le_refl _) (t + (u' - L)) (by omega)
            have P2 := k.perM f2 hL.dq (Nat.le_refl _) (u' - L) (by omega)
            rw [show t + (u' - L) + L = t + u' by omega] at P1
            rw [show u' - L + L = u' by omega] at P2
            rw [eC_fin f2] at hy'; cases hy'
            have := ih (u' - L) (by omega) _ (eC_fin f2 q jnc _)
            omega
    rw [eC_fin f1]
    exact ole_some (by have := key u' u' (Nat.le_refl _) y hy'; omega)
  · cases v' with
    | none => exact ole_none _
    | some x =>
      have := hv' u _ (hy u hu)
      rw [eC_fin f1] at this
      obtain ⟨z, hz, hzl⟩ := this _ rfl
      cases hz
      exact ole_some (by omega)

/-- What all of this stage's values keep to. -/
structure Dec (zs : List Int) (p : Nat) (inc : Int) (ys : List Int) (q : Nat) (jnc : Int) (L : Nat) : Prop where
  g : Good zs p inc
  k : Good ys q jnc
  h0 : atC ys q jnc 0 = 0
  ng : ∃ s, zs.length = s + p ∧ NormOf (atC zs p inc) s p inc
  nk : ∃ s, ys.length = s + q ∧ NormOf (atC ys q jnc) s q jnc
  m : Mult p q L
  l : L ≤ 120

variable {L : Nat}
theorem Dec.reach1 (d : Dec zs p inc ys q jnc L) : 1 ≤ reach zs p ys q L := by
  have := d.m.one
  by_cases f2 : InfC ys
  · rw [reach_inf f2]
    rcases Nat.lt_or_ge 1 ys.length with h1 | h1
    · omega
    · exfalso
      have h0 := d.h0
      have e : ys.length - 1 = 0 := by omega
      have f3 := f2
      unfold InfC at f3
      rw [e] at f3
      have := d.k.p1; have := d.k.p3
      rw [atC_lt (by omega), f3] at h0
      unfold infV at h0; omega
  · rw [reach_fin f2]; omega
theorem Dec.reach_le (d : Dec zs p inc ys q jnc L) : reach zs p ys q L ≤ 519 := by
  have := d.l; have := d.g.few; have := d.g.p1; have := d.k.few; have := d.k.p1; have := d.g.p3; have := d.k.p3
  by_cases f2 : InfC ys
  · rw [reach_inf f2]; omega
  · rw [reach_fin f2]; omega
theorem Dec.second (d : Dec zs p inc ys q jnc L) {u : Nat} (hu : u < reach zs p ys q L) : eC ys q jnc u = some (atC ys q jnc u) := by
  by_cases f2 : InfC ys
  · rw [reach_inf f2] at hu
    obtain ⟨y, hy⟩ := (norm_inf d.k f2 d.nk u).1 hu
    rw [hy, (eC_bd d.k hy).2.2]
  · exact eC_fin f2 q jnc u
theorem Dec.second_bd (d : Dec zs p inc ys q jnc L) {u : Nat} (hu : u < reach zs p ys q L) : 0 ≤ atC ys q jnc u ∧ atC ys q jnc u ≤ 1073741824 * ((u : Int) + 1) := by
  have := eC_bd d.k (d.second hu); omega

/-- A gain is infinite or small. -/
theorem Dec.gain_bd (d : Dec zs p inc ys q jnc L) {t u : Nat} (ht : t ≤ 100000) (hu : u < reach zs p ys q L) : gainI (atC zs p inc) (atC ys q jnc) t u = infV ∨ (-1125899906842624 ≤ gainI (atC zs p inc) (atC ys q jnc) t u ∧ gainI (atC zs p inc) (atC ys q jnc) t u ≤ 1073741824 * ((t : Int) + 520)) := by
  unfold gainI
  have := d.second_bd hu
  have := d.reach_le
  rcases eC_cases d.g (t := t + u) (by omega) with ⟨_, e⟩ | ⟨x, _, e, h1, h2⟩
  · exact .inl (by rw [if_pos e])
  · rw [e]
    by_cases hx : x = infV
    · unfold infV at hx; omega
    · rw [if_neg hx]; right; omega
theorem Dec.first0 (d : Dec zs p inc ys q jnc L) (t : Nat) : 0 ≤ atC zs p inc t := by
  by_cases f1 : InfC zs
  · rcases eC_inf d.g f1 t with h | ⟨x, _, h, h1, _⟩
    · rw [(eC_none.1 h).2]; unfold infV; omega
    · omega
  · exact (d.g.bd f1 t).1
theorem Dec.most_at (d : Dec zs p inc ys q jnc L) (t : Nat) : ∃ u, u < reach zs p ys q L ∧ gainI (atC zs p inc) (atC ys q jnc) t u = mostTo (atC zs p inc) (atC ys q jnc) t (reach zs p ys q L) :=
  mostTo_at d.reach1 (d.first0 t) d.h0
theorem Dec.most_mid (d : Dec zs p inc ys q jnc L) {t n : Nat} (ht : t ≤ 100000) (hn : n ≤ reach zs p ys q L) : mostTo (atC zs p inc) (atC ys q jnc) t n = infV ∨ (0 ≤ mostTo (atC zs p inc) (atC ys q jnc) t n ∧ mostTo (atC zs p inc) (atC ys q jnc) t n ≤ 1073741824 * ((t : Int) + 520)) := by
  have h0 := mostTo_nn (atC zs p inc) (atC ys q jnc) t n
  rcases mostTo_found (atC zs p inc) (atC ys q jnc) t n with h | ⟨u, hu, e⟩
  · rw [h]; right; omega
  · have := d.gain_bd ht (show u < reach zs p ys q L by omega)
    rw [e] at this; omega

/-- The values that the program computes are those of the deconvolution. -/
theorem Dec.val (d : Dec zs p inc ys q jnc L) (hs : ¬ Steep zs p inc ys q jnc L) {t : Nat} (ht : t ≤ 100000) :
    encF (eDec zs p inc ys q jnc) t = mostTo (atC zs p inc) (atC ys q jnc) t (reach zs p ys q L) ∧ (∀ x, eDec zs p inc ys q jnc t = some x → ∃ u, u < reach zs p ys q L ∧ atC zs p inc (t + u) - atC ys q jnc u = x ∧ ¬ atC zs p inc (t + u) = infV) ∧
      (eDec zs p inc ys q jnc t = none → mostTo (atC zs p inc) (atC ys q jnc) t (reach zs p ys q L) = infV) := by
  have h00 := eC_zero0 d.k d.h0
  have hr := d.reach_le
  have hle : ∀ u, u < reach zs p ys q L → gainI (atC zs p inc) (atC ys q jnc) t u ≤ infV := fun u hu => by
    rcases d.gain_bd ht hu with h | h
    · omega
    · unfold infV; omega
  by_cases hx : ∃ u, u < reach zs p ys q L ∧ eC zs p inc (t + u) = none
  · obtain ⟨u, hu, hnone⟩ := hx
    have e1 : eDec zs p inc ys q jnc t = none := dec_eq h00 ⟨fun u y _ => by rw [oadd_none_l]; exact ole_none _, fun v' hv' => by
      cases v' with
      | none => exact ole_none _
      | some x =>
        obtain ⟨z, hz, _⟩ := hv' u _ (d.second hu) _ rfl
        rw [hnone] at hz; cases hz⟩
    have e2 := mostTo_inf hu ((eC_none.1 hnone).2) hle
    exact ⟨by rw [encF_none e1, e2], fun x h => (by rw [e1] at h; cases h), fun _ => e2⟩
  · have hsome : ∀ u, u < reach zs p ys q L → ∃ x, eC zs p inc (t + u) = some x := fun u hu => by
      cases h : eC zs p inc (t + u) with
      | none => exact absurd ⟨u, hu, h⟩ hx
      | some x => exact ⟨x, rfl⟩
    have hne : ∀ u, u < reach zs p ys q L → ¬ atC zs p inc (t + u) = infV := fun u hu => by
      obtain ⟨x, hx⟩ := hsome u hu
      have := eC_bd d.g hx
      unfold infV; omega
    have hg : ∀ u, u < reach zs p ys q L → gainI (atC zs p inc) (atC ys q jnc) t u = atC zs p inc (t + u) - atC ys q jnc u := fun u hu => by unfold gainI; rw [if_neg (hne u hu)]
    obtain ⟨v, e1, ⟨u, hu, e⟩, hv⟩ : ∃ v, eDec zs p inc ys q jnc t = some v ∧ (∃ u, u < reach zs p ys q L ∧ atC zs p inc (t + u) - atC ys q jnc u = v) ∧ (∀ u, u < reach zs p ys q L → atC zs p inc (t + u) - atC ys q jnc u ≤ v) := by
      by_cases f1 : InfC zs
      · have f2 : InfC ys := Classical.byContradiction fun f2 => by
          have h1 := (d.g.tailI f1).1
          obtain ⟨x, hx⟩ := hsome (zs.length - 1) (by rw [reach_fin f2]; have := d.m.one; omega)
          rw [eC_late d.g f1 (by omega)] at hx; cases hx
        obtain ⟨u, hu, e⟩ := d.most_at t
        refine ⟨mostTo (atC zs p inc) (atC ys q jnc) t (reach zs p ys q L), dec_eq h00 ⟨fun u' y hy' => ?_, fun v' hv' => ?_⟩, ⟨u, hu, by rw [← hg u hu]; exact e⟩, fun u' hu' => by rw [← hg u' hu']; exact mostTo_le hu'⟩
        · have hu' : u' < reach zs p ys q L := Nat.lt_of_not_le fun hl => by
            rw [reach_inf f2] at hl
            rw [eC_late d.k f2 hl] at hy'; cases hy'
          obtain ⟨x, hx⟩ := hsome u' hu'
          rw [hx]
          have h1 := mostTo_le (F := atC zs p inc) (G := atC ys q jnc) (t := t) hu'
          have h2 := (eC_bd d.g hx).2.2
          have h3 := (eC_bd d.k hy').2.2
          rw [hg u' hu'] at h1
          exact ole_some (by omega)
        · cases v' with
          | none => exact ole_none _
          | some x =>
            obtain ⟨z, hz, hzl⟩ := hv' u _ (d.second hu) _ rfl
            have := (eC_bd d.g hz).2.2
            rw [hg u hu] at e
            exact ole_some (by omega)
      · exact dec_fin d.g d.k d.h0 d.nk d.m hs f1 t
    have e2 : mostTo (atC zs p inc) (atC ys q jnc) t (reach zs p ys q L) = v := mostTo_eq d.reach1 (d.first0 t) d.h0 ⟨u, hu, by rw [hg u hu]; exact e⟩ (fun u' hu' => by rw [hg u' hu']; exact hv u' hu')
    exact ⟨by rw [encF_some e1, e2], fun x h => (by rw [e1] at h; cases h; exact ⟨u, hu, e, hne u hu⟩), fun h => (by rw [e1] at h; cases h)⟩

theorem dec_up (g : Good zs p inc) (k : Good ys q jnc) (h0 : atC ys q jnc 0 = 0) (t : Nat) (h : eDec zs p inc ys q jnc t = none) : eDec zs p inc ys q jnc (t + 1) = none := by
  cases h2 : eDec zs p inc ys q jnc (t + 1) with
  | none => rfl
  | some y =>
    obtain ⟨x, hx, _⟩ := dec_upward (eC_zero0 k h0) (eC_mono1 g) t y h2
    rw [show oDec (eC zs p inc) (eC ys q jnc) t = none from h] at hx; cases hx

/-- Where the first curve grows by c in P ticks from s on, so do the bounds. -/
theorem Dec.shift (d : Dec zs p inc ys q jnc L) (hs : ¬ Steep zs p inc ys q jnc L) (f1 : ¬ InfC zs) {s P : Nat} {c : Int} (h : Per (atC zs p inc) s P c) : Per (encF (eDec zs p inc ys q jnc)) s P c := fun t ht => by
  obtain ⟨v, e1, ⟨u, hu, e2⟩, h1⟩ := dec_fin d.g d.k d.h0 d.nk d.m hs f1 t
  obtain ⟨v', e1', ⟨u', hu', e2'⟩, h1'⟩ := dec_fin d.g d.k d.h0 d.nk d.m hs f1 (t + P)
  rw [encF_some e1, encF_some e1']
  have k1 := h (t + u) (by omega)
  have k2 := h (t + u') (by omega)
  have k3 := h1' u hu
  have k4 := h1 u' hu'
  rw [show t + P + u = t + u + P by omega] at k3
  rw [show t + P + u' = t + u' + P by omega] at e2'
  omega

theorem Dec.none_late (d : Dec zs p inc ys q jnc L) (f1 : InfC zs) {t : Nat} (ht : zs.length - p ≤ t) : eDec zs p inc ys q jnc t = none := by
  have h1 := (d.g.tailI f1).1
  cases h : eDec zs p inc ys q jnc t with
  | none => rfl
  | some y =>
    obtain ⟨x, hx, _⟩ := dec_self (a := eC zs p inc) (eC_zero0 d.k d.h0) t y h
    rw [eC_late d.g f1 (by omega)] at hx; cases hx

theorem Dec.from (d : Dec zs p inc ys q jnc L) (hs : ¬ Steep zs p inc ys q jnc L) : FromOk (eDec zs p inc ys q jnc) (zs.length - p) p := by
  have hn := d.g.few; have h1 := d.g.p1; have h2 := d.g.p2; have h3 := d.g.p3
  refine ⟨fun t ht => ?_, ?_, tame_mid (dec_up d.g d.k d.h0) fun t x ht hx => ?_⟩
  · rw [(d.val hs (by omega)).1]
    rcases d.most_mid (t := t) (by omega) (Nat.le_refl _) with h | h
    · rw [h]; unfold infV; omega
    · unfold infV; omega
  · by_cases f1 : InfC zs
    · exact ⟨0, fun t ht => by rw [encF_none (d.none_late f1 ht), encF_none (d.none_late f1 (by omega))]; omega⟩
    · exact ⟨inc, d.shift hs f1 (d.g.per f1)⟩
  · obtain ⟨u, hu, e, hne⟩ := (d.val hs (show t ≤ 100000 by omega)).2.1 x hx
    have := d.gain_bd (t := t) (by omega) hu
    unfold gainI at this
    rw [if_neg hne, e] at this
    unfold infV at this
    rcases this with h | h
    · exfalso
      have := d.second_bd hu; have := d.reach_le
      rcases eC_cases d.g (t := t + u) (by omega) with ⟨_, e5⟩ | ⟨x5, _, e5, h5, h6⟩
      · exact hne e5
      · omega
    · omega

end
end Go.Proofs.Ytombgfpheiopgaa

namespace Go.Proofs.Ytombgfpheiopgaa
set_option linter.unusedSimpArgs false

/-- The least of e and of the sums of the numbers at s and t - s, for the first k of the s from 1 on. -/
def partTo (h : Nat → Option Int) (e : Option Int) (t : Nat) : Nat → Option Int
  | 0 => e
  | k + 1 => omin (partTo h e t k) (oadd (h (k + 1)) (h (t - (k + 1))))
/-- The closure's values up to n. -/
def cloN (E : Nat → Option Int) : Nat → Nat → Option Int
  | 0, t => if t = 0 then some 0 else none
  | n + 1, t => if t = n + 1 then partTo (cloN E n) (E (n + 1)) (n + 1) n else cloN E n t
/-- The closure: 0 at the tick 0, else the least sum of all ways to write the tick as a sum. -/
def oclo (E : Nat → Option Int) (t : Nat) : Option Int := cloN E t t

section
variable {E E' C : Nat → Option Int}
/-- A function that is sub-additive. -/
def SubA (C : Nat → Option Int) : Prop := ∀ s u, ole (C (s + u)) (oadd (C s) (C u))
end

end Go.Proofs.Ytombgfpheiopgaa

namespace Go.Proofs.Ytombgfpheiopgaa
set_option linter.unusedSimpArgs false
set_option linter.unusedVariables false

/-- A function whose sums below two periods are right is sub-additive. -/
theorem sub_per {X : Nat → Option Int} {s p : Nat} {c : Int} (hp : 1 ≤ p) (hP : ∀ t, s ≤ t → X (t + p) = oadd (X t) (some c)) (h : ∀ a b, a < s + p → b < s + p → ole (X (a + b)) (oadd (X a) (X b))) : SubA X := by
  have key : ∀ n a b, a + b ≤ n → ole (X (a + b)) (oadd (X a) (X b)) := fun n => by
    induction n with
    | zero => intro a b hn; exact h a b (by omega) (by omega)
    | succ n ih =>
      intro a b hn
      by_cases ha : a < s + p
      · by_cases hb : b < s + p
        · exact h a b ha hb
        · have e1 := hP (b - p) (by omega)
          have e2 := hP (a + (b - p)) (by omega)
          rw [show b - p + p = b by omega] at e1
          rw [show a + (b - p) + p = a + b by omega] at e2
          rw [e1, e2, ← oadd_assoc]
          exact ole_oadd2 (ih a (b - p) (by omega)) (ole_refl _)
      · have e1 := hP (a - p) (by omega)
        have e2 := hP (a - p + b) (by omega)
        rw [show a - p + p = a by omega] at e1
        rw [show a - p + b + p = a + b by omega] at e2
        rw [e1, e2, oadd_assoc, oadd_comm (some c), ← oadd_assoc]
        exact ole_oadd2 (ih (a - p) b (by omega)) (ole_refl _)
  exact fun a b => key (a + b) a b (Nat.le_refl _)

section
variable {ys hs : List Int} {q r p : Nat} {jnc knc : Int}

/-- The closure of a curve. -/
noncomputable def eClo (ys : List Int) (q : Nat) (jnc : Int) : Nat → Option Int := oclo (eC ys q jnc)

/-! ## The common period, the horizon, the parts -/

/-- The common period of a curve and of one that may be its closure. -/
noncomputable def comL (q : Nat) (hs : List Int) (r : Nat) : Nat := open Classical in if InfC hs then 1 else q / Nat.gcd q r * r
/-- There is a certificate: a normal form, and a common period within the limit. -/
def CloCan (ys : List Int) (q : Nat) (jnc : Int) : Prop := ys.length ≤ 60 ∧ ∃ hs r knc, EForm hs r knc (eClo ys q jnc) ∧ comL q hs r ≤ 120

end
end Go.Proofs.Ytombgfpheiopgaa
