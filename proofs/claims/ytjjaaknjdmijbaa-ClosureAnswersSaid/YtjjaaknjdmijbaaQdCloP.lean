/- What the program computes of a closure: its first values, a period that fits, the curve that is made of them, and why this is the closure. By the verifier's side. -/
import Derived.Test.YtjjaaknjdmijbaaQdCloM
namespace Go.Proofs.Ytjjaaknjdmijbaa
set_option linter.unusedSimpArgs false
set_option linter.unusedVariables false

theorem partTo_anti {h : Nat → Option Int} {e : Option Int} {t : Nat} : ∀ {k j : Nat}, j ≤ k → ole (partTo h e t k) (partTo h e t j)
  | 0, j, hj => by obtain rfl : j = 0 := by omega
                   exact ole_refl _
  | k + 1, j, hj => by
    by_cases e1 : j = k + 1
    · subst e1; exact ole_refl _
    · exact ole_trans (ole_omin_l _ _) (partTo_anti (by omega))
/-- A sum of two parts is tried once. -/
theorem clo_half (E : Nat → Option Int) {t : Nat} (ht : 1 ≤ t) : oclo E t = partTo (oclo E) (E t) t (t / 2) := by
  obtain ⟨n, rfl⟩ : ∃ n, t = n + 1 := ⟨t - 1, by omega⟩
  rw [clo_step]
  refine ole_anti (partTo_anti (by omega)) ?_
  rcases partTo_found (h := oclo E) (e := E (n + 1)) (t := n + 1) n with h | ⟨s, h1, h2, h⟩
  · rw [h]; exact partTo_e _
  · rw [h]
    by_cases hs : s ≤ (n + 1) / 2
    · exact partTo_le h1 hs
    · have := partTo_le (h := oclo E) (e := E (n + 1)) (t := n + 1) (s := n + 1 - s) (k := (n + 1) / 2) (by omega) (by omega)
      rwa [show n + 1 - (n + 1 - s) = s by omega, oadd_comm] at this

/-- A function whose sums below two periods are right is sub-additive. -/
theorem sub_per {X : Nat → Option Int} {s p : Nat} {c : Int} (hp : 1 ≤ p) (hP : ∀ t, s ≤ t → X (t + p) = oadd (X t) (some c)) (h : ∀ a b, a < s + p → b < s + p → ole (X (a + b)) (oadd (X a) (X b))) : SubA X := by
  have key : ∀ n a b, a + b ≤ n → ole (X (a + b)) (oadd (X a) (X b)) := fun n => by
    induction n with
    | zero => intro a b hn; exact h a b (by omega) (by omega)
    | succ n ih =>
      intro a b hn
      by_cases ha : a < s + p
      · by_cases hb : b < s + p
        · exact h a b ha hb
        · have e1 := hP (b - p) (by omega)
          have e2 := hP (a + (b - p)) (by omega)
          rw [show b - p + p = b by omega] at e1
          rw [show a + (b - p) + p = a + b by omega] at e2
          rw [e1, e2, ← oadd_assoc]
          exact ole_oadd2 (ih a (b - p) (by omega)) (ole_refl _)
      · have e1 := hP (a - p) (by omega)
        have e2 := hP (a - p + b) (by omega)
        rw [show a - p + p = a by omega] at e1
        rw [show a - p + b + p = a + b by omega] at e2
        rw [e1, e2, oadd_assoc, oadd_comm (some c), ← oadd_assoc]
        exact ole_oadd2 (ih (a - p) b (by omega)) (ole_refl _)
  exact fun a b => key (a + b) a b (Nat.le_refl _)

section
variable {ys hs : List Int} {q r p : Nat} {jnc knc : Int}

/-- The closure of a curve. -/
noncomputable def eClo (ys : List Int) (q : Nat) (jnc : Int) : Nat → Option Int := oclo (eC ys q jnc)

theorem clo_bd (g : Good ys q jnc) : ∀ {t : Nat} {x : Int}, eClo ys q jnc t = some x → 0 ≤ x ∧ x ≤ 2147483648 * (t : Int) := fun {t} => by
  induction t using Nat.strongRecOn with
  | ind t ih =>
    intro x hx
    rcases Nat.eq_zero_or_pos t with rfl | ht
    · rw [show eClo ys q jnc 0 = some 0 from rfl] at hx; cases hx; omega
    rcases clo_found (eC ys q jnc) ht with e | ⟨s, h1, h2, e⟩
    · rw [show eClo ys q jnc t = eC ys q jnc t from e] at hx
      have := eC_bd g hx
      omega
    · rw [show eClo ys q jnc t = _ from e] at hx
      obtain ⟨y, z, hy, hz, rfl⟩ := both_some hx
      have := ih s h2 hy
      have := ih (t - s) (by omega) hz
      omega
theorem part_bd (g : Good ys q jnc) {t k : Nat} (ht : 1 ≤ t) (hk : k < t) {x : Int} (h : partTo (eClo ys q jnc) (eC ys q jnc t) t k = some x) : 0 ≤ x ∧ x ≤ 2147483648 * (t : Int) := by
  rcases partTo_found (h := eClo ys q jnc) (e := eC ys q jnc t) (t := t) k with e | ⟨s, h1, h2, e⟩
  · rw [e] at h
    have := eC_bd g h
    omega
  · rw [e] at h
    obtain ⟨y, z, hy, hz, rfl⟩ := both_some h
    have := clo_bd g hy
    have := clo_bd g hz
    omega
theorem mid_enc {v : Option Int} (h : ∀ x, v = some x → 0 ≤ x ∧ x ≤ 1125899906842624) : Mid (enc v) := by
  cases v with
  | none => exact .inl rfl
  | some x => exact .inr (h x rfl)
theorem clo_mid (g : Good ys q jnc) {t : Nat} (ht : t ≤ 100000) : Mid (encF (eClo ys q jnc) t) := mid_enc fun x hx => by have := clo_bd g hx; omega
theorem enc_add {a b : Option Int} (ha : ∀ x, a = some x → ¬ x = infV) (hb : ∀ x, b = some x → ¬ x = infV) : enc (oadd a b) = plI (enc a) (enc b) := by
  cases a with
  | none => rw [oadd_none_l]; exact (plI_l _).symm
  | some x => cases b with
    | none => exact (plI_r _).symm
    | some y => exact (plI_fin (ha x rfl) (hb y rfl)).symm
theorem clo_nf (g : Good ys q jnc) {t : Nat} (ht : t ≤ 100000) : ∀ x, eClo ys q jnc t = some x → ¬ x = infV := fun x hx => by
  have := clo_bd g hx; unfold infV; omega
/-- One more part. -/
theorem part_step (g : Good ys q jnc) {t k : Nat} (ht : 1 ≤ t) (ht2 : t ≤ 100000) (hk : k + 1 < t) :
    enc (partTo (eClo ys q jnc) (eC ys q jnc t) t (k + 1)) = min (enc (partTo (eClo ys q jnc) (eC ys q jnc t) t k)) (plI (encF (eClo ys q jnc) (k + 1)) (encF (eClo ys q jnc) (t - (k + 1)))) := by
  have e := enc_add (clo_nf g (show k + 1 ≤ 100000 by omega)) (clo_nf g (show t - (k + 1) ≤ 100000 by omega))
  unfold encF
  rw [← e]
  refine enc_omin (fun x hx => ?_) (fun x hx => ?_)
  · have := part_bd g ht (show k < t by omega) hx; unfold infV; omega
  · obtain ⟨y, z, hy, hz, rfl⟩ := both_some hx
    have := clo_bd g hy
    have := clo_bd g hz
    unfold infV; omega
theorem part_last (E : Nat → Option Int) {t : Nat} (ht : 1 ≤ t) : enc (partTo (oclo E) (E t) t (t / 2)) = encF (oclo E) t := by
  unfold encF; rw [clo_half E ht]

theorem clo_inf (g : Good ys q jnc) (h1 : eC ys q jnc 1 = none) {t : Nat} (ht : 1 ≤ t) : eClo ys q jnc t = none := by
  induction t using Nat.strongRecOn with
  | ind t ih =>
    rcases clo_found (eC ys q jnc) ht with e | ⟨s, k1, k2, e⟩
    · have := stays (fun t ht => eC_up g ht) h1 (t - 1)
      rw [show 1 + (t - 1) = t by omega] at this
      exact e.trans this
    · have := ih s k2 k1
      rw [show oclo (eC ys q jnc) s = none from this, oadd_none_l] at e
      exact e
theorem clo_fin {b : Int} (h1 : eC ys q jnc 1 = some b) (t : Nat) : ∃ x, eClo ys q jnc t = some x := by
  induction t with
  | zero => exact ⟨0, rfl⟩
  | succ t ih =>
    obtain ⟨x, hx⟩ := ih
    have h2 := clo_sub (eC ys q jnc) t 1
    have h3 := clo_le (E := eC ys q jnc) (Nat.le_refl 1)
    rw [h1] at h3
    obtain ⟨y, hy, _⟩ := h3 b rfl
    rw [show oclo (eC ys q jnc) t = some x from hx, hy] at h2
    obtain ⟨z, hz, _⟩ := h2 (x + y) rfl
    exact ⟨z, hz⟩

/-- From the last tick on at which a curve with this period can begin to repeat, the list grows by the same. -/
def Fits (F : Nat → Int) (p : Nat) : Prop := ∀ t, 400 - p ≤ t → t + p < 1040 → F (t + p) - F t = F 400 - F (400 - p)
/-- The first values, and then on with the period. -/
noncomputable def cloX (E : Nat → Option Int) (p : Nat) (t : Nat) : Option Int :=
  if t < 400 then oclo E t else oadd (oclo E (400 - p + (t - (400 - p)) % p)) (some ((((t - (400 - p)) / p : Nat) : Int) * (encF (oclo E) 400 - encF (oclo E) (400 - p))))

theorem clox_lt {E : Nat → Option Int} {p t : Nat} (h : t < 400) : cloX E p t = oclo E t := if_pos h
theorem clox_per {E : Nat → Option Int} {p : Nat} (h1 : 1 ≤ p) (h2 : p ≤ 120) {t : Nat} (ht : 400 - p ≤ t) : cloX E p (t + p) = oadd (cloX E p t) (some (encF (oclo E) 400 - encF (oclo E) (400 - p))) := by
  have e1 : cloX E p (t + p) = oadd (oclo E (400 - p + (t - (400 - p)) % p)) (some (((((t - (400 - p)) / p + 1 : Nat)) : Int) * (encF (oclo E) 400 - encF (oclo E) (400 - p)))) := by
    unfold cloX
    rw [if_neg (by omega), show t + p - (400 - p) = t - (400 - p) + p by omega, Nat.add_mod_right, Nat.add_div_right _ (by omega)]
  rw [e1]
  by_cases hl : t < 400
  · rw [clox_lt hl, Nat.mod_eq_of_lt (by omega), Nat.div_eq_of_lt (by omega), show 400 - p + (t - (400 - p)) = t by omega]
    generalize encF (oclo E) 400 - encF (oclo E) (400 - p) = c
    rw [show (((0 + 1 : Nat)) : Int) * c = c by omega]
  · unfold cloX
    rw [if_neg hl, oadd_assoc3]
    generalize encF (oclo E) 400 - encF (oclo E) (400 - p) = c
    generalize (t - (400 - p)) / p = d
    rw [show ((d + 1 : Nat) : Int) * c = c + (d : Int) * c by rw [show ((d + 1 : Nat) : Int) = (d : Int) + 1 by omega, Int.add_mul]; omega]

theorem clox_eq (g : Good ys q jnc) {p : Nat} (h1 : 1 ≤ p) (h2 : p ≤ 120) (h : Fits (encF (eClo ys q jnc)) p) {t : Nat} (ht : t < 1040) : cloX (eC ys q jnc) p t = eClo ys q jnc t := by
  induction t using Nat.strongRecOn with
  | ind t ih =>
    by_cases hl : t < 400
    · exact clox_lt hl
    have e1 := clox_per (E := eC ys q jnc) h1 h2 (show 400 - p ≤ t - p by omega)
    rw [show t - p + p = t by omega, ih (t - p) (by omega) (by omega)] at e1
    have e2 := h (t - p) (by omega) (by omega)
    rw [show t - p + p = t by omega] at e2
    rw [e1]
    cases hb : eC ys q jnc 1 with
    | none => rw [clo_inf g hb (by omega), clo_inf g hb (show 1 ≤ t by omega), oadd_none_l]
    | some b =>
      obtain ⟨x, hx⟩ := clo_fin hb t
      obtain ⟨y, hy⟩ := clo_fin hb (t - p)
      rw [encF_some hx, encF_some hy] at e2
      have e3 : encF (oclo (eC ys q jnc)) 400 - encF (oclo (eC ys q jnc)) (400 - p) = x - y := e2.symm
      rw [hx, hy, e3]
      show some (y + (x - y)) = some x
      rw [show y + (x - y) = x by omega]
theorem clox_fin {b : Int} (hb : eC ys q jnc 1 = some b) (p t : Nat) : ∃ x, cloX (eC ys q jnc) p t = some x := by
  unfold cloX
  split
  · exact clo_fin hb t
  · obtain ⟨x, hx⟩ := clo_fin hb (400 - p + (t - (400 - p)) % p)
    unfold eClo at hx
    rw [hx]
    exact ⟨_, rfl⟩
theorem clox_inf (g : Good ys q jnc) (hb : eC ys q jnc 1 = none) {p : Nat} (h2 : p ≤ 120) {t : Nat} (ht : 1 ≤ t) : cloX (eC ys q jnc) p t = none := by
  unfold cloX
  split
  · exact clo_inf g hb ht
  · have e := clo_inf g hb (show 1 ≤ 400 - p + (t - (400 - p)) % p by omega)
    unfold eClo at e
    rw [e, oadd_none_l]
theorem clox_tame (g : Good ys q jnc) {p : Nat} (h1 : 1 ≤ p) (h2 : p ≤ 120) (h : Fits (encF (eClo ys q jnc)) p) : Tame (cloX (eC ys q jnc) p) := by
  cases hb : eC ys q jnc 1 with
  | none =>
    refine ⟨fun t ht => clox_inf g hb h2 (by omega), .inr fun t x hx => ?_⟩
    rcases Nat.eq_zero_or_pos t with rfl | ht
    · rw [clox_lt (by omega)] at hx; cases hx; decide
    · rw [clox_inf g hb h2 ht] at hx; cases hx
  | some b =>
    refine ⟨fun t ht => ?_, .inl ⟨400, Nat.le_refl _, ?_⟩⟩
    · obtain ⟨x, hx⟩ := clox_fin hb p t
      rw [hx] at ht; cases ht
    · obtain ⟨x, hx⟩ := clo_fin hb 400
      exact ⟨x, (clox_eq g h1 h2 h (by omega)).trans hx, clo_nf g (by omega) x hx⟩
theorem clox_perF (g : Good ys q jnc) {p : Nat} (h1 : 1 ≤ p) (h2 : p ≤ 120) : Per (encF (cloX (eC ys q jnc) p)) (400 - p) p (encF (eClo ys q jnc) 400 - encF (eClo ys q jnc) (400 - p)) := fun t ht => by
  have e := clox_per (E := eC ys q jnc) h1 h2 ht
  cases hb : eC ys q jnc 1 with
  | none =>
    rw [encF_none (clox_inf g hb h2 (show 1 ≤ t + p by omega)), encF_none (clox_inf g hb h2 (show 1 ≤ t by omega)), encF_none (clo_inf g hb (show 1 ≤ 400 by omega)), encF_none (clo_inf g hb (show 1 ≤ 400 - p by omega))]
    omega
  | some b =>
    obtain ⟨x, hx⟩ := clox_fin hb p t
    rw [hx] at e
    rw [encF_some hx, encF_some e]; rfl
theorem clox_encF (g : Good ys q jnc) {p : Nat} (h1 : 1 ≤ p) (h2 : p ≤ 120) (h : Fits (encF (eClo ys q jnc)) p) {t : Nat} (ht : t < 1040) : encF (cloX (eC ys q jnc) p) t = encF (eClo ys q jnc) t := by
  unfold encF; rw [clox_eq g h1 h2 h ht]
theorem clox_sub (g : Good ys q jnc) {p : Nat} (h1 : 1 ≤ p) (h2 : p ≤ 120) (h : Fits (encF (eClo ys q jnc)) p) : SubA (cloX (eC ys q jnc) p) :=
  sub_per (s := 400 - p) h1 (fun t ht => clox_per h1 h2 ht) fun a b ha hb => by
    rw [clox_eq g h1 h2 h (show a + b < 1040 by omega), clox_eq g h1 h2 h (show a < 1040 by omega), clox_eq g h1 h2 h (show b < 1040 by omega)]
    exact clo_sub _ a b

/-- If there is a curve that is the closure, its period fits. -/
theorem fits_of (k : Good hs r knc) (h : ∀ t, eC hs r knc t = eClo ys q jnc t) : Fits (encF (eClo ys q jnc)) r := by
  have P := k.perAny
  have hv : ∀ t, atC hs r knc t = encF (eClo ys q jnc) t := fun t => by rw [← enc_eC, h]; rfl
  intro t h1 h2
  have hf := k.few
  have h3 := k.p3
  have h4 := k.p2
  have e1 := P t (by omega)
  have e2 := P (400 - r) (by omega)
  rw [show 400 - r + r = 400 by omega] at e2
  rw [← hv, ← hv, ← hv, ← hv]; omega
/-- And what is made of the first values is the closure. -/
theorem clox_of (g : Good ys q jnc) (k : Good hs r knc) (h : ∀ t, eC hs r knc t = eClo ys q jnc t) {p : Nat} (h1 : 1 ≤ p) (h2 : p ≤ r) (hf : Fits (encF (eClo ys q jnc)) p) : cloX (eC ys q jnc) p = eClo ys q jnc := by
  have P := k.perAny
  have hv : atC hs r knc = encF (eClo ys q jnc) := funext fun t => by rw [← enc_eC, h]; rfl
  have k1 := k.few
  have k2 := k.p2
  have k3 := k.p3
  rw [hv] at P
  have P2 : Per (encF (eClo ys q jnc)) (400 - p) p (encF (eClo ys q jnc) 400 - encF (eClo ys q jnc) (400 - p)) :=
    (P.mono (show hs.length - r ≤ 400 - p by omega)).upto k.p1 fun t t1 t2 => by have := hf t t1 (by omega); omega
  have e := (clox_perF g h1 (by omega)).ext P2 h1 fun t ht => clox_encF g h1 (by omega) hf (by omega)
  funext t
  have e1 := e t
  cases hb : eC ys q jnc 1 with
  | none =>
    rcases Nat.eq_zero_or_pos t with rfl | ht
    · rw [clox_lt (by omega)]; rfl
    · rw [clox_inf g hb (by omega) ht, clo_inf g hb ht]
  | some b =>
    obtain ⟨x, hx⟩ := clox_fin hb p t
    obtain ⟨y, hy⟩ := clo_fin hb t
    rw [encF_some hx, encF_some hy] at e1
    rw [hx, hy, e1]

/-! ## The common period, the horizon, the parts -/

/-- The common period of a curve and of one that may be its closure. -/
noncomputable def comL (q : Nat) (hs : List Int) (r : Nat) : Nat := open Classical in if InfC hs then 1 else q / Nat.gcd q r * r
def horC (ys : List Int) (q : Nat) (hs : List Int) (r L : Nat) : Nat := max (ys.length - q) (2 * (hs.length - r)) + L + 1
theorem comL_inf (h : InfC hs) : comL q hs r = 1 := by unfold comL; rw [if_pos h]
theorem comL_fin (h : ¬ InfC hs) : comL q hs r = q / Nat.gcd q r * r := by unfold comL; rw [if_neg h]
theorem comL_one (h1 : 1 ≤ q) (h2 : 1 ≤ r) : 1 ≤ comL q hs r := by
  by_cases h : InfC hs
  · rw [comL_inf h]; omega
  · rw [comL_fin h]; exact (lcm_of h1 h2 rfl).one
/-- The slopes are the same. -/
def Alike (ys : List Int) (q : Nat) (jnc : Int) (r : Nat) (knc : Int) : Prop := ¬ InfC ys ∧ jnc * (r : Int) = knc * (q : Int)
/-- The value at the tick t is attained by the first part s. -/
def CAtt (ys : List Int) (q : Nat) (jnc : Int) (hs : List Int) (r : Nat) (knc : Int) (fr s t : Nat) : Prop :=
  (s = 0 ∧ atC ys q jnc t = atC hs r knc t ∧ (t < fr ∨ atC hs r knc t = infV ∨ Alike ys q jnc r knc)) ∨ (1 ≤ s ∧ s < t ∧ plI (atC hs r knc s) (atC hs r knc (t - s)) = atC hs r knc t ∧ (t < fr ∨ hs.length - r ≤ t - s))

theorem grow_eq (h1 : 1 ≤ q) (h2 : 1 ≤ r) {L : Nat} (hL : Mult q r L) : jnc * (r : Int) = knc * (q : Int) ↔ jnc * ((L / q : Nat) : Int) = knc * ((L / r : Nat) : Int) := by
  have e1 : ((L / q : Nat) : Int) * (q : Int) = L := by rw [← Int.natCast_mul, hL.dp]
  have e2 : ((L / r : Nat) : Int) * (r : Int) = L := by rw [← Int.natCast_mul, hL.dq]
  have hl := hL.one
  generalize ((L / q : Nat) : Int) = a at *
  generalize ((L / r : Nat) : Int) = b at *
  have hq : (q : Int) ≠ 0 := by omega
  have hr : (r : Int) ≠ 0 := by omega
  have hLL : (L : Int) ≠ 0 := by omega
  constructor
  · intro h
    -- j a q r = j r L = k q L = k b r q
    have k1 : (jnc * a) * ((q : Int) * r) = (knc * b) * ((q : Int) * r) := by
      have x1 : (jnc * a) * ((q : Int) * r) = (jnc * r) * (a * q) := by rw [Int.mul_assoc, ← Int.mul_assoc a, Int.mul_comm (a * q), ← Int.mul_assoc]
      have x2 : (knc * b) * ((q : Int) * r) = (knc * q) * (b * r) := by rw [Int.mul_assoc, Int.mul_comm (q : Int) r, ← Int.mul_assoc b, Int.mul_comm (b * r), ← Int.mul_assoc]
      rw [x1, x2, e1, e2, h]
    exact Int.eq_of_mul_eq_mul_right (Int.mul_ne_zero hq hr) k1
  · intro h
    have k1 : (jnc * r) * (L : Int) = (knc * q) * (L : Int) := by
      have x1 : (jnc * r) * (a * q) = (jnc * a) * ((q : Int) * r) := by rw [Int.mul_assoc jnc a, ← Int.mul_assoc a, Int.mul_comm (a * q) r, ← Int.mul_assoc jnc]
      have x2 : (knc * q) * (b * r) = (knc * b) * ((q : Int) * r) := by rw [Int.mul_assoc knc b, Int.mul_comm (q : Int) r, ← Int.mul_assoc b, Int.mul_comm (b * r) q, ← Int.mul_assoc knc]
      rw [show (jnc * r) * (L : Int) = (jnc * r) * (a * q) by rw [e1], show (knc * q) * (L : Int) = (knc * q) * (b * r) by rw [e2], x1, x2, h]
    exact Int.eq_of_mul_eq_mul_right hLL k1

theorem com_mult (hf : ¬ InfC hs) (h1 : 1 ≤ q) (h2 : 1 ≤ r) : Mult q r (comL q hs r) := by rw [comL_fin hf]; exact (lcm_of h1 h2 rfl).mult

/-- What a certificate proves. -/
theorem cert_clo (g : Good ys q jnc) (k : Good hs r knc) (h0 : eC hs r knc 0 = some 0) (hle : ∀ t, ole (eC hs r knc t) (eC ys q jnc t)) (hsub : SubA (eC hs r knc)) {fr : Nat} (hfr : fr = horC ys q hs r (comL q hs r))
    (hat : ∀ t, 1 ≤ t → t < fr + comL q hs r → ∃ s, CAtt ys q jnc hs r knc fr s t) : eC hs r knc = eClo ys q jnc := by
  have hL1 := comL_one (hs := hs) g.p1 k.p1
  have hval : ∀ {t s : Nat} , atC ys q jnc t = atC hs r knc t → t ≤ 1048576 → eC ys q jnc t = eC hs r knc t := fun {t s} e ht => by
    rcases eC_cases g ht with ⟨a1, a2⟩ | ⟨x, a1, a2, a3, a4⟩ <;> rcases eC_cases k ht with ⟨b1, b2⟩ | ⟨y, b1, b2, b3, b4⟩
    · rw [a1, b1]
    · exfalso; rw [a2, b2] at e; unfold infV at e; omega
    · exfalso; rw [a2, b2] at e; unfold infV at e; omega
    · rw [a1, b1]; rw [← a2, ← b2, e]
  have hk := k.few
  have hg := g.few
  have hper : ∃ c : Int, (¬ InfC hs → c = knc * ((comL q hs r / r : Nat) : Int)) ∧ ∀ t, hs.length - r ≤ t → eC hs r knc (t + comL q hs r) = oadd (eC hs r knc t) (some c) := by
    by_cases hi : InfC hs
    · refine ⟨0, fun h => absurd hi h, fun t ht => ?_⟩
      have hr := (k.tailI hi).1
      rw [eC_late k hi (by omega), eC_late k hi (by omega)]; rfl
    · refine ⟨_, fun _ => rfl, fun t ht => ?_⟩
      have := k.perM hi (com_mult hi g.p1 k.p1).dq (Nat.le_refl _) t ht
      rw [eC_fin hi, eC_fin hi, this]; rfl
  obtain ⟨c, hc, hP⟩ := hper
  by_cases hbig : fr + comL q hs r ≤ 1048576
  · refine clo_cert (fr := fr) (L := comL q hs r) (sh := hs.length - r) hL1 hsub h0 (fun t _ => hle t) (by rw [hfr]; unfold horC; omega) (by rw [hfr]; unfold horC; omega) hP fun t t1 t2 => ?_
    obtain ⟨s, ⟨s0, e, hor⟩ | ⟨s1, s2, e, hor⟩⟩ := hat t t1 t2
    · left
      refine ⟨hval (s := s) e (by omega), fun hft hnn u hu => ?_⟩
      rcases hor with h | h | ⟨f1, f2⟩
      · omega
      · exfalso
        rcases eC_cases k (show t ≤ 1048576 by omega) with ⟨b1, b2⟩ | ⟨y, b1, b2, b3, b4⟩
        · exact hnn b1
        · rw [b2] at h; unfold infV at h; omega
      · have hi : ¬ InfC hs := fun hi => hnn (eC_late k hi (by have := (k.tailI hi).1; rw [hfr] at hft; unfold horC at hft; omega))
        have hM := com_mult (hs := hs) hi g.p1 k.p1
        have e3 := g.perM f1 hM.dp (Nat.le_refl _) u (by rw [hfr] at hu; unfold horC at hu; omega)
        rw [eC_fin f1, eC_fin f1, e3, hc hi, (grow_eq g.p1 k.p1 hM).1 f2]; rfl
    · right
      refine ⟨s, s1, s2, ?_, fun hft => hor.elim (fun h => by omega) id⟩
      rcases eC_cases k (show t ≤ 1048576 by omega) with ⟨b1, b2⟩ | ⟨y, b1, b2, b3, b4⟩ <;> rcases eC_cases k (show s ≤ 1048576 by omega) with ⟨c1, c2⟩ | ⟨z, c1, c2, c3, c4⟩ <;> rcases eC_cases k (show t - s ≤ 1048576 by omega) with ⟨d1, d2⟩ | ⟨x, d1, d2, d3, d4⟩ <;> rw [b1, c1, d1] <;> rw [b2, c2, d2] at e
      · rfl
      · rfl
      · rfl
      · exfalso; rw [plI_fin (by unfold infV; omega) (by unfold infV; omega)] at e; unfold infV at e; omega
      · exfalso; rw [plI_l] at e; unfold infV at e; omega
      · exfalso; rw [plI_l] at e; unfold infV at e; omega
      · exfalso; rw [plI_r] at e; unfold infV at e; omega
      · rw [plI_fin (by unfold infV; omega) (by unfold infV; omega)] at e; rw [← e]; rfl
  · exfalso
    apply hbig
    rw [hfr]; unfold horC
    have h1 : comL q hs r ≤ 120 * 120 := by
      by_cases hi : InfC hs
      · rw [comL_inf hi]; omega
      · rw [comL_fin hi]
        exact Nat.mul_le_mul (Nat.le_trans (Nat.div_le_self _ _) g.p2) k.p2
    omega

/-- Below the horizon and a period each value is attained. -/
theorem catt_ex (g : Good ys q jnc) (k : Good hs r knc) (hX : ∀ t, t < 1040 → eC hs r knc t = eClo ys q jnc t) (hle : ∀ t, ole (eC hs r knc t) (eC ys q jnc t)) (hL : comL q hs r ≤ 120) {fr : Nat} (hfr : fr = horC ys q hs r (comL q hs r)) {t : Nat} (t1 : 1 ≤ t) (t2 : t < fr + comL q hs r) :
    ∃ s, s < t ∧ CAtt ys q jnc hs r knc fr s t := by
  have hk := k.few
  have hg := g.few
  have b1 := k.p3
  have b2 := k.p1
  have b3 := g.p1
  have b4 := g.p3
  have hL1 := comL_one (hs := hs) g.p1 k.p1
  have ht : t < 1040 := by rw [hfr] at t2; unfold horC at t2; omega
  have hv : ∀ u, u < 1040 → atC hs r knc u = encF (eClo ys q jnc) u := fun u hu => by rw [← enc_eC, hX u hu]; rfl
  have hh := clo_half (eC ys q jnc) t1
  rcases partTo_found (h := oclo (eC ys q jnc)) (e := eC ys q jnc t) (t := t) (t / 2) with e | ⟨s, s1, s2, e⟩
  · refine ⟨0, by omega, .inl ⟨rfl, ?_, ?_⟩⟩
    · rw [hv t ht]; unfold encF eClo; rw [hh, e, enc_eC]
    · by_cases hlt : t < fr
      · exact .inl hlt
      by_cases hin : atC hs r knc t = infV
      · exact .inr (.inl hin)
      refine .inr (.inr ?_)
      have hi : ¬ InfC hs := fun hi => hin (atC_inf hi (by have := (k.tailI hi).1; rw [hfr] at hlt; unfold horC at hlt; omega) (by omega))
      have he : eC hs r knc t = eC ys q jnc t := by rw [hX t ht]; exact hh.trans e
      have hj : ¬ InfC ys := fun hj => by
        rw [eC_late g hj (by have := (g.tailI hj).1; rw [hfr] at hlt; unfold horC at hlt; omega), eC_fin hi] at he; cases he
      have hM := com_mult (hs := hs) hi g.p1 k.p1
      refine ⟨hj, (grow_eq g.p1 k.p1 hM).2 ?_⟩
      have P1 := g.perM hj hM.dp (Nat.le_refl _)
      have P2 := k.perM hi hM.dq (Nat.le_refl _)
      have hb1 : ys.length - q ≤ t - comL q hs r := by rw [hfr] at hlt; unfold horC at hlt; omega
      have hb2 : hs.length - r ≤ t - comL q hs r := by rw [hfr] at hlt; unfold horC at hlt; omega
      have hb3 : comL q hs r ≤ t := by rw [hfr] at hlt; unfold horC at hlt; omega
      have p1 := P1 (t - comL q hs r) hb1
      have p2 := P2 (t - comL q hs r) hb2
      rw [show t - comL q hs r + comL q hs r = t by omega] at p1 p2
      have p3 := P1 t (by omega)
      have p4 := P2 t (by omega)
      rw [eC_fin hi, eC_fin hj] at he
      have he2 : atC hs r knc t = atC ys q jnc t := Option.some.inj he
      have l1 := hle (t - comL q hs r)
      have l2 := hle (t + comL q hs r)
      rw [eC_fin hi, eC_fin hj] at l1 l2
      obtain ⟨x1, hx1, l1⟩ := l1 _ rfl
      obtain ⟨x2, hx2, l2⟩ := l2 _ rfl
      cases hx1; cases hx2
      omega
  · refine ⟨s, by omega, .inr ⟨s1, by omega, ?_, ?_⟩⟩
    · rw [hv t ht, hv s (by omega), hv (t - s) (by omega)]
      rw [show encF (eClo ys q jnc) t = enc (oadd (oclo (eC ys q jnc) s) (oclo (eC ys q jnc) (t - s))) by unfold encF eClo; rw [hh, e]]
      exact (enc_add (clo_nf g (by omega)) (clo_nf g (by omega))).symm
    · by_cases hlt : t < fr
      · exact .inl hlt
      · refine .inr ?_
        rw [hfr] at hlt; unfold horC at hlt; omega

/-- The least first part: the first one that attains, or t. -/
noncomputable def leastA (P : Nat → Prop) : Nat → Nat → Nat
  | 0, s => s
  | n + 1, s => open Classical in if P s then s else leastA P n (s + 1)
theorem leastA_spec {P : Nat → Prop} : ∀ {n s : Nat}, (∀ u, s ≤ u → u < leastA P n s → ¬ P u) ∧ s ≤ leastA P n s ∧ leastA P n s ≤ s + n ∧ (leastA P n s = s + n ∨ P (leastA P n s))
  | 0, s => ⟨fun u h1 h2 => by unfold leastA at h2; omega, Nat.le_refl _, Nat.le_refl _, .inl rfl⟩
  | n + 1, s => by
    by_cases h : P s
    · have e : leastA P (n + 1) s = s := by unfold leastA; rw [if_pos h]
      rw [e]
      exact ⟨fun u h1 h2 => by omega, Nat.le_refl _, by omega, .inr h⟩
    · have e : leastA P (n + 1) s = leastA P n (s + 1) := by rw [leastA, if_neg h]
      rw [e]
      obtain ⟨h1, h2, h3, h4⟩ := leastA_spec (P := P) (n := n) (s := s + 1)
      refine ⟨fun u a b => ?_, by omega, by omega, h4.imp (fun h => by omega) id⟩
      by_cases hu : u = s
      · subst hu; exact h
      · exact h1 u (by omega) b
theorem leastA_eq {P : Nat → Prop} {n v : Nat} (h1 : v ≤ n) (h2 : v = n ∨ P v) (h3 : ∀ u, u < v → ¬ P u) : leastA P n 0 = v := by
  obtain ⟨a, b, c, d⟩ := leastA_spec (P := P) (n := n) (s := 0)
  rcases Nat.lt_trichotomy (leastA P n 0) v with h | h | h
  · rcases d with d | d
    · omega
    · exact absurd d (h3 _ h)
  · exact h
  · rcases h2 with h2 | h2
    · omega
    · exact absurd h2 (a v (by omega) h)
theorem leastA_ex {P : Nat → Prop} {n : Nat} (h : ∃ s, s < n ∧ P s) : P (leastA P n 0) ∧ leastA P n 0 < n := by
  obtain ⟨s, hs, hp⟩ := h
  obtain ⟨a, b, c, d⟩ := leastA_spec (P := P) (n := n) (s := 0)
  have : leastA P n 0 ≤ s := Nat.le_of_not_lt fun hl => a s (by omega) hl hp
  exact ⟨d.resolve_left (by omega), by omega⟩

/-- There is a certificate: a normal form, and a common period within the limit. -/
def CloCan (ys : List Int) (q : Nat) (jnc : Int) : Prop := ys.length ≤ 60 ∧ ∃ hs r knc, EForm hs r knc (eClo ys q jnc) ∧ comL q hs r ≤ 120

/-- What is made, is at most the curve, and has a common period within the limit, is the closure. -/
theorem clox_is (g : Good ys q jnc) {p : Nat} (h1 : 1 ≤ p) (h2 : p ≤ 120) (hf : Fits (encF (eClo ys q jnc)) p) (h : EForm hs r knc (cloX (eC ys q jnc) p)) (hle : ∀ t, ole (eC hs r knc t) (eC ys q jnc t)) (hL : comL q hs r ≤ 120) : EForm hs r knc (eClo ys q jnc) := by
  obtain ⟨k, he, hn⟩ := h
  have hX : ∀ t, t < 1040 → eC hs r knc t = eClo ys q jnc t := fun t ht => (he t).trans (clox_eq g h1 h2 hf ht)
  have e := cert_clo g k ((hX 0 (by omega)).trans rfl) hle (by rw [funext he]; exact clox_sub g h1 h2 hf) rfl fun t t1 t2 => by
    obtain ⟨s, _, hs⟩ := catt_ex g k hX hle hL rfl t1 t2
    exact ⟨s, hs⟩
  exact ⟨k, fun t => by rw [e], hn⟩
end
end Go.Proofs.Ytjjaaknjdmijbaa
