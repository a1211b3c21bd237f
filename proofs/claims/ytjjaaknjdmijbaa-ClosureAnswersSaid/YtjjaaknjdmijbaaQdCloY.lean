/- What the document's closure guesses: the first values up to a period behind the greatest length, and then on with the period. By the verifier's side. -/
import Derived.Test.YtjjaaknjdmijbaaQdCloP
import Derived.Test.YtjjaaknjdmijbaaQdDecM
import Derived.Test.YtjjaaknjdmijbaaQdRCl5
namespace Go.Proofs.Ytjjaaknjdmijbaa
set_option linter.unusedSimpArgs false
set_option linter.unusedVariables false
section
variable {ys hs : List Int} {q r p : Nat} {jnc knc : Int}

noncomputable def cloY (E : Nat → Option Int) (p : Nat) (t : Nat) : Option Int :=
  if t < 400 then oclo E t else oadd (oclo E (400 + (t - 400) % p)) (some ((((t - 400) / p : Nat) : Int) * (encF (oclo E) (400 + p) - encF (oclo E) 400)))

theorem cloy_lt {E : Nat → Option Int} {t : Nat} (h1 : 1 ≤ p) (h : t < 400 + p) : cloY E p t = oclo E t := by
  unfold cloY
  by_cases hl : t < 400
  · exact if_pos hl
  · rw [if_neg hl, Nat.mod_eq_of_lt (by omega), Nat.div_eq_of_lt (by omega), show 400 + (t - 400) = t by omega]
    generalize encF (oclo E) (400 + p) - encF (oclo E) 400 = c
    rw [show (((0 : Nat)) : Int) * c = 0 by simp]
    cases oclo E t with
    | none => rfl
    | some x => show some (x + 0) = some x; rw [Int.add_zero]
theorem cloy_per {E : Nat → Option Int} (h1 : 1 ≤ p) {t : Nat} (ht : 400 ≤ t) : cloY E p (t + p) = oadd (cloY E p t) (some (encF (oclo E) (400 + p) - encF (oclo E) 400)) := by
  unfold cloY
  rw [if_neg (by omega), if_neg (by omega), show t + p - 400 = t - 400 + p by omega, Nat.add_mod_right, Nat.add_div_right _ (by omega), oadd_assoc3]
  generalize encF (oclo E) (400 + p) - encF (oclo E) 400 = c
  generalize (t - 400) / p = d
  rw [show ((d + 1 : Nat) : Int) * c = c + (d : Int) * c by rw [show ((d + 1 : Nat) : Int) = (d : Int) + 1 by omega, Int.add_mul]; omega]
theorem cloy_fin {b : Int} (hb : eC ys q jnc 1 = some b) (p t : Nat) : ∃ x, cloY (eC ys q jnc) p t = some x := by
  unfold cloY
  split
  · exact clo_fin hb t
  · obtain ⟨x, hx⟩ := clo_fin hb (400 + (t - 400) % p)
    unfold eClo at hx
    rw [hx]
    exact ⟨_, rfl⟩
theorem cloy_inf (g : Good ys q jnc) (hb : eC ys q jnc 1 = none) {t : Nat} (ht : 1 ≤ t) : cloY (eC ys q jnc) p t = none := by
  unfold cloY
  split
  · exact clo_inf g hb ht
  · have e := clo_inf g hb (show 1 ≤ 400 + (t - 400) % p by omega)
    unfold eClo at e
    rw [e, oadd_none_l]
theorem clo_upK (g : Good ys q jnc) (t k : Nat) : ole (eClo ys q jnc t) (eClo ys q jnc (t + k)) := by
  induction k with
  | zero => exact ole_refl _
  | succ k ih => exact ole_trans ih (clo_up (fun t _ => eC_mono1 g t) (fun t x h => (eC_bd g h).1) (t + k))
/-- Infinite at all but the first tick, or nowhere. -/
theorem clo_639 (g : Good ys q jnc) : encF (eClo ys q jnc) 639 = infV ↔ eC ys q jnc 1 = none := by
  constructor
  · intro h
    cases hb : eC ys q jnc 1 with
    | none => rfl
    | some b =>
      obtain ⟨x, hx⟩ := clo_fin hb 639
      rw [encF_some hx] at h
      exact absurd h (clo_nf g (by omega) x hx)
  · intro h; exact encF_none (clo_inf g h (by omega))
theorem clo_vals (g : Good ys q jnc) (h : ¬ encF (eClo ys q jnc) 639 = infV) : ∀ t, t < 640 → 0 ≤ encF (eClo ys q jnc) t ∧ encF (eClo ys q jnc) t ≤ 1125899906842624 := fun t ht => by
  cases hb : eC ys q jnc 1 with
  | none => exact absurd ((clo_639 g).2 hb) h
  | some b =>
    obtain ⟨x, hx⟩ := clo_fin hb t
    rw [encF_some hx]
    have := clo_bd g hx; omega
theorem incY_bd (g : Good ys q jnc) (h2 : p ≤ 120) : 0 ≤ incY (encF (eClo ys q jnc)) p ∧ incY (encF (eClo ys q jnc)) p ≤ 35184372088832 := by
  unfold incY
  split
  · omega
  · rename_i h
    cases hb : eC ys q jnc 1 with
    | none => exact absurd ((clo_639 g).2 hb) h
    | some b =>
      obtain ⟨x, hx⟩ := clo_fin hb (400 + p)
      obtain ⟨y, hy⟩ := clo_fin hb 400
      obtain ⟨z, hz, hle⟩ := clo_upK g 400 p x hx
      rw [hy] at hz; cases hz
      rw [encF_some hx, encF_some hy]
      have := clo_bd g hx; have := clo_bd g hy; omega
theorem cloy_raw (g : Good ys q jnc) (h1 : 1 ≤ p) (h2 : p ≤ 120) : RawE (firsts (encF (eClo ys q jnc)) (400 + p)) p (incY (encF (eClo ys q jnc)) p) (cloY (eC ys q jnc) p) := by
  have e : firsts (encF (eClo ys q jnc)) (400 + p) = firsts (encF (cloY (eC ys q jnc) p)) (400 + p) := list_ext_getD (by rw [firsts_length, firsts_length]) fun i hi => by
    rw [firsts_length] at hi
    rw [firsts_getD _ _ _ hi, firsts_getD _ _ _ hi]
    unfold encF; rw [cloy_lt h1 hi]; rfl
  have ib := incY_bd (p := p) g h2
  rw [e]
  refine rawE_of (by omega) h1 (by omega) (by omega) ib (fun t ht => ?_) (fun t ht x hx => ?_) (fun hs => ?_) (fun ⟨t, ht⟩ => ?_)
  · cases hb : eC ys q jnc 1 with
    | none => exact cloy_inf g hb (by omega)
    | some b => obtain ⟨x, hx⟩ := cloy_fin hb p t; rw [hx] at ht; cases ht
  · rw [cloy_lt h1 ht] at hx
    have := clo_bd g hx; omega
  · cases hb : eC ys q jnc 1 with
    | none => exact absurd (cloy_inf g hb (Nat.le_refl 1)) (hs 1)
    | some b =>
      intro t ht
      rw [show 400 + p - p = 400 by omega] at ht
      have e := cloy_per (E := eC ys q jnc) h1 ht
      obtain ⟨x, hx⟩ := cloy_fin hb p t
      rw [hx] at e
      rw [encF_some hx, encF_some e]
      unfold incY
      rw [if_neg (fun h => by rw [(clo_639 g).1 h] at hb; cases hb)]
      rfl
  · refine ⟨1, by omega, ?_⟩
    cases hb : eC ys q jnc 1 with
    | none => exact cloy_inf g hb (Nat.le_refl 1)
    | some b => obtain ⟨x, hx⟩ := cloy_fin hb p t; rw [hx] at ht; cases ht

/-- If there is a curve that is the closure, its period fits. -/
theorem fity_of (k : Good hs r knc) (h : ∀ t, eC hs r knc t = eClo ys q jnc t) : FitY (encF (eClo ys q jnc)) r := by
  have P := k.perAny
  have hv : ∀ t, atC hs r knc t = encF (eClo ys q jnc) t := fun t => by rw [← enc_eC, h]; rfl
  have hf := k.few
  refine .inr fun t h1 h2 => ?_
  have e1 := P t (by omega)
  have e2 := P 400 (by omega)
  rw [← hv, ← hv, ← hv, ← hv]; omega
/-- And what is made of the first values with the least period that fits is the closure. -/
theorem cloy_of (g : Good ys q jnc) (k : Good hs r knc) (h : ∀ t, eC hs r knc t = eClo ys q jnc t) (h1 : 1 ≤ p) (h2 : p ≤ r) (hf : FitY (encF (eClo ys q jnc)) p) : cloY (eC ys q jnc) p = eClo ys q jnc := by
  have hv : atC hs r knc = encF (eClo ys q jnc) := funext fun t => by rw [← enc_eC, h]; rfl
  have k1 := k.few
  have k2 := k.p2
  have k3 := k.p3
  cases hb : eC ys q jnc 1 with
  | none =>
    funext t
    rcases Nat.eq_zero_or_pos t with rfl | ht
    · rw [cloy_lt h1 (by omega)]; rfl
    · rw [cloy_inf g hb ht, clo_inf g hb ht]
  | some b =>
    have hni : ¬ encF (eClo ys q jnc) 639 = infV := fun e => by rw [(clo_639 g).1 e] at hb; cases hb
    have hf' := hf.resolve_left hni
    have P := k.perAny
    rw [hv] at P
    have P2 : Per (encF (eClo ys q jnc)) 400 p (encF (eClo ys q jnc) (400 + p) - encF (eClo ys q jnc) 400) :=
      (P.mono (show hs.length - r ≤ 400 by omega)).upto k.p1 fun t t1 t2 => by have := hf' t t1 (by omega); omega
    have P1 : Per (encF (cloY (eC ys q jnc) p)) 400 p (encF (eClo ys q jnc) (400 + p) - encF (eClo ys q jnc) 400) := fun t ht => by
      have e := cloy_per (E := eC ys q jnc) h1 ht
      obtain ⟨x, hx⟩ := cloy_fin hb p t
      rw [hx] at e
      rw [encF_some hx, encF_some e]; rfl
    have e := P1.ext P2 h1 fun t ht => by unfold encF; rw [cloy_lt h1 (by omega)]; rfl
    funext t
    have e1 := e t
    obtain ⟨x, hx⟩ := cloy_fin hb p t
    obtain ⟨y, hy⟩ := clo_fin hb t
    rw [encF_some hx, encF_some hy] at e1
    rw [hx, hy, e1]
end

end Go.Proofs.Ytjjaaknjdmijbaa
