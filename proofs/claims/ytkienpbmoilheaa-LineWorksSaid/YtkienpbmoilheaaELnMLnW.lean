/- The mathematics of a line that sends packets in the order of their arrival: what is sent before each tick, in a closed form. Nothing here speaks of the program. By the verifier's side. -/
import Derived.Test.YtkienpbmoilheaaEPkS
namespace Go.Proofs.Ytkienpbmoilheaa
set_option linter.unusedSimpArgs false
set_option linter.unusedVariables false

/-- What is sent before each tick: the capacity in each, or all that has arrived. -/
def lineS (C : Int) (p : List Pk) : Nat → Int
  | 0 => 0
  | t + 1 => min (lineS C p t + C) (arrT p ((t + 1 : Nat) : Int))
theorem lineS_succ (C : Int) (p : List Pk) (t : Nat) : lineS C p (t + 1) = min (lineS C p t + C) (arrT p ((t + 1 : Nat) : Int)) := rfl
/-- A number, held between 0 and s. -/
def clp (x s : Int) : Int := if x ≤ 0 then 0 else if s ≤ x then s else x
/-- What a packet has got, of B bytes. -/
def gvn (p : List Pk) (B : Int) (i : Nat) : Int := clp (B - preS p i) (szI p i)
/-- What a class has got, of B bytes. -/
def sentF (p : List Pk) (c B : Int) : Int := sumI (fun i => if (p.getD i default).f = c then gvn p B i else 0) p.length
/-- The packets of a trace have sizes, and stand in the order of their ticks. -/
structure Trc (p : List Pk) : Prop where
  asc : Asc p
  sz : ∀ i, i < p.length → 1 ≤ szI p i ∧ szI p i ≤ 1500
  nn : ∀ i, 0 ≤ szI p i
  len : p.length ≤ 60
  tm : ∀ i, i < p.length → 0 ≤ (p.getD i default).t ∧ (p.getD i default).t ≤ 2000
  fl : ∀ i, i < p.length → 0 ≤ (p.getD i default).f ∧ (p.getD i default).f ≤ 59
theorem trc_of {p : List Pk} (hl : p.length ≤ 60) (hok : ∀ q ∈ p, okP q = true) (ha : Asc p) : Trc p := by
  have h : ∀ i, i < p.length → 0 ≤ (p.getD i default).f ∧ (p.getD i default).f ≤ 59 ∧ 0 ≤ (p.getD i default).t ∧ (p.getD i default).t ≤ 2000 ∧ 1 ≤ (p.getD i default).s ∧ (p.getD i default).s ≤ 1500 := fun i hi => by
    have hm : p.getD i default ∈ p := by rw [List.getD_eq_getElem?_getD, List.getElem?_eq_getElem hi]; exact List.getElem_mem _
    exact (okP_iff _).1 (hok _ hm)
  refine ⟨ha, fun i hi => by have := h i hi; unfold szI; omega, fun i => ?_, hl, fun i hi => by have := h i hi; omega, fun i hi => by have := h i hi; omega⟩
  rcases Nat.lt_or_ge i p.length with hi | hi
  · have := h i hi; unfold szI; omega
  · unfold szI; rw [List.getD_eq_getElem?_getD, List.getElem?_eq_none hi]; exact Int.le_refl 0

section
variable {p : List Pk} {C : Int}
theorem clp_bd {x s : Int} (hs : 0 ≤ s) : 0 ≤ clp x s ∧ clp x s ≤ s := by unfold clp; split; omega; split <;> omega
theorem preS_succ (p : List Pk) (k : Nat) : preS p (k + 1) = preS p k + szI p k := rfl
theorem preS_mono (h : ∀ i, 0 ≤ szI p i) {i j : Nat} (hij : i ≤ j) : preS p i ≤ preS p j := sumI_part h j hij
theorem preS_lt (h : Trc p) {i j : Nat} (hij : i < j) (hj : j ≤ p.length) : preS p i < preS p j := by
  have h1 := preS_mono h.nn (show i + 1 ≤ j by omega)
  have h2 := h.sz i (by omega)
  have h3 := preS_succ p i
  omega
theorem preS_bd (h : Trc p) : ∀ k, k ≤ p.length → 0 ≤ preS p k ∧ preS p k ≤ 1500 * (k : Int)
  | 0, _ => ⟨Int.le_refl _, Int.le_refl _⟩
  | k + 1, hk => by
    have := preS_bd h k (by omega)
    have := h.sz k (by omega)
    rw [preS_succ]; omega
theorem preS_top (h : Trc p) : 0 ≤ preS p p.length ∧ preS p p.length ≤ 90000 := by have := preS_bd h p.length (Nat.le_refl _); have := h.len; omega
theorem gvn_bd (h : ∀ i, 0 ≤ szI p i) (B : Int) (i : Nat) : 0 ≤ gvn p B i ∧ gvn p B i ≤ szI p i := clp_bd (h i)
theorem gvn_zero {B : Int} {i : Nat} (hb : B ≤ preS p i) : gvn p B i = 0 := by unfold gvn clp; rw [if_pos (by omega)]
theorem gvn_full {B : Int} {i : Nat} (h : 0 ≤ szI p i) (hb : preS p (i + 1) ≤ B) : gvn p B i = szI p i := by
  have := preS_succ p i
  unfold gvn clp
  split
  · omega
  · rw [if_pos (by omega)]
theorem gvn_mid {B : Int} {i : Nat} (h1 : preS p i ≤ B) (h2 : B ≤ preS p (i + 1)) : gvn p B i = B - preS p i := by
  have := preS_succ p i
  unfold gvn clp
  split
  · omega
  · split <;> omega
/-- d more bytes go to the packet at which the line is. -/
theorem gvn_step (h : ∀ i, 0 ≤ szI p i) {B d : Int} {k : Nat} (h1 : preS p k ≤ B) (hd : 0 ≤ d) (h2 : B + d ≤ preS p (k + 1)) (i : Nat) : gvn p (B + d) i = gvn p B i + (if i = k then d else 0) := by
  by_cases e : i = k
  · subst e
    rw [if_pos rfl, gvn_mid (by omega) h2, gvn_mid h1 (by omega)]; omega
  · rw [if_neg e]
    rcases Nat.lt_or_gt_of_ne e with c | c
    · have := preS_mono h (show i + 1 ≤ k by omega)
      rw [gvn_full (h i) (by omega), gvn_full (h i) (by omega)]; omega
    · have := preS_mono h (show k + 1 ≤ i by omega)
      rw [gvn_zero (by omega), gvn_zero (by omega)]; rfl
theorem sumI_add (g k : Nat → Int) : ∀ n, sumI (fun i => g i + k i) n = sumI g n + sumI k n
  | 0 => rfl
  | n + 1 => by rw [sumI_succ, sumI_succ, sumI_succ, sumI_add g k n]; omega
theorem sumI_one {k : Nat} {d : Int} : ∀ n, sumI (fun i => if i = k then d else 0) n = if k < n then d else 0
  | 0 => by rw [if_neg (by omega)]; rfl
  | n + 1 => by
    rw [sumI_succ, sumI_one n]
    by_cases e : n = k
    · subst e; rw [if_neg (by omega), if_pos rfl, if_pos (by omega)]; omega
    · rw [if_neg e]
      by_cases c : k < n
      · rw [if_pos c, if_pos (by omega)]; omega
      · rw [if_neg c, if_neg (by omega)]; rfl
theorem sent_step (h : ∀ i, 0 ≤ szI p i) {B d : Int} {k : Nat} (hk : k < p.length) (h1 : preS p k ≤ B) (hd : 0 ≤ d) (h2 : B + d ≤ preS p (k + 1)) (c : Int) :
    sentF p c (B + d) = sentF p c B + (if (p.getD k default).f = c then d else 0) := by
  unfold sentF
  rw [sumI_congr (h := fun i => (if (p.getD i default).f = c then gvn p B i else 0) + (if i = k then (if (p.getD k default).f = c then d else 0) else 0)) p.length (fun i hi => by
    rw [gvn_step h h1 hd h2 i]
    by_cases e : i = k
    · subst e; rw [if_pos rfl, if_pos rfl]; split <;> omega
    · rw [if_neg e, if_neg e, Int.add_zero, Int.add_zero]), sumI_add, sumI_one, if_pos hk]
theorem sumI_zero : ∀ n, sumI (fun _ => 0) n = 0
  | 0 => rfl
  | n + 1 => by rw [sumI_succ, sumI_zero n]; rfl
theorem sent_zero {B : Int} (h : ∀ i, 0 ≤ szI p i) (hb : B ≤ 0) (c : Int) : sentF p c B = 0 := by
  unfold sentF
  rw [sumI_congr (h := fun _ => 0) p.length (fun i hi => by
    rw [gvn_zero (Int.le_trans hb (sumI_nn _ fun j _ => h j))]; split <;> rfl), sumI_zero]
theorem sent_bd (h : ∀ i, 0 ≤ szI p i) (c B : Int) : 0 ≤ sentF p c B ∧ sentF p c B ≤ preS p p.length :=
  ⟨sumI_nn _ fun i _ => by have := gvn_bd h B i; (try dsimp only); split <;> omega, sumI_le _ fun i _ => by have := gvn_bd h B i; have := h i; (try dsimp only); split <;> omega⟩
/-- All packets together have got B. -/
theorem gvn_sum (h : ∀ i, 0 ≤ szI p i) {B : Int} (hB : 0 ≤ B) : ∀ n, sumI (gvn p B) n = min B (preS p n)
  | 0 => by show 0 = min B 0; omega
  | n + 1 => by
    rw [sumI_succ, gvn_sum h hB n]
    have h1 := preS_succ p n
    have h2 := h n
    rcases Int.le_total B (preS p n) with c | c
    · rw [gvn_zero c]; omega
    · rcases Int.le_total B (preS p (n + 1)) with d | d
      · rw [gvn_mid c d]; omega
      · rw [gvn_full h2 d]; omega

theorem lineS_nn (h : Trc p) (hC : 0 ≤ C) : ∀ t, 0 ≤ lineS C p t
  | 0 => Int.le_refl _
  | t + 1 => by have := lineS_nn h hC t; have := arrT_nn h.nn ((t + 1 : Nat) : Int); rw [lineS_succ]; omega
theorem arrT_zero (h : Trc p) : arrT p 0 = 0 := by
  unfold arrT
  rw [sumI_congr (h := fun _ => 0) p.length (fun i hi => if_neg (by have := h.tm i hi; omega)), sumI_zero]
theorem lineS_arr (h : Trc p) : ∀ t : Nat, lineS C p t ≤ arrT p (t : Int)
  | 0 => by show 0 ≤ arrT p 0; rw [arrT_zero h]; exact Int.le_refl _
  | t + 1 => by rw [lineS_succ]; omega
theorem lineS_step (h : Trc p) (hC : 0 ≤ C) (t : Nat) : lineS C p t ≤ lineS C p (t + 1) := by
  have h1 := lineS_arr (C := C) h t
  have h2 := arrT_mono h.nn (show ((t : Nat) : Int) ≤ ((t + 1 : Nat) : Int) by omega)
  rw [lineS_succ]; omega
theorem lineS_up (h : Trc p) (t : Nat) : lineS C p t ≤ preS p p.length := Int.le_trans (lineS_arr h t) (arrT_up h.nn _)
/-- The tick in which a packet is finished, or -1. -/
def lnDone (C : Int) (p : List Pk) (T : Nat) (i : Nat) : Int := doneF (lineS C p) (preS p (i + 1)) T

/-- In the middle of a tick: B bytes were sent, room for R is left. -/
structure MidL (C : Int) (p : List Pk) (t : Nat) (B R : Int) : Prop where
  lo : lineS C p t ≤ B
  hi : B ≤ arrT p ((t + 1 : Nat) : Int)
  sum : B + R = lineS C p t + C
  nn : 0 ≤ R
theorem mid_start (h : Trc p) (hC : 0 ≤ C) (t : Nat) : MidL C p t (lineS C p t) C :=
  ⟨Int.le_refl _, Int.le_trans (lineS_arr h t) (arrT_mono h.nn (by omega)), rfl, hC⟩
/-- No room is left. -/
theorem mid_full {t : Nat} {B : Int} (h : MidL C p t B 0) : B = lineS C p (t + 1) := by have := h.lo; have := h.hi; have := h.sum; rw [lineS_succ]; omega
/-- Nothing waits. -/
theorem mid_idle (hT : Trc p) {t : Nat} {B R : Int} (h : MidL C p t B R) {k : Nat} (hk : k ≤ p.length) (hB : B = preS p k) (hn : k < p.length → (t : Int) < (p.getD k default).t) : B = lineS C p (t + 1) := by
  have h1 := h.hi
  have h2 := h.sum
  have h3 := h.nn
  have h4 : arrT p ((t + 1 : Nat) : Int) ≤ B := by
    by_cases c : k < p.length
    · rw [hB]; exact arrT_le hT.asc hT.nn c (by have := hn c; omega)
    · rw [hB, show k = p.length by omega]; exact arrT_up hT.nn _
  rw [lineS_succ]; omega
/-- A packet that has arrived is sent on. -/
theorem mid_send (hT : Trc p) {t : Nat} {B R d : Int} (h : MidL C p t B R) {k : Nat} (hk : k < p.length) (ht : (p.getD k default).t ≤ (t : Int)) (hd : 0 ≤ d) (hdR : d ≤ R) (hdk : B + d ≤ preS p (k + 1)) : MidL C p t (B + d) (R - d) := by
  have h1 := arrT_ge hT.asc hT.nn hk (u := ((t + 1 : Nat) : Int)) (by omega)
  exact ⟨by have := h.lo; omega, by omega, by have := h.sum; omega, by omega⟩
/-- The ticks in which packets are finished, in the middle of a tick. -/
def dnM (C : Int) (p : List Pk) (t : Nat) (B : Int) (i : Nat) : Int := if preS p (i + 1) ≤ B ∧ lnDone C p t i < 0 then (t : Int) else lnDone C p t i
/-- It is known ahead if the last byte was sent before. -/
theorem lnDone_iff (h : Trc p) (hC : 0 ≤ C) {t : Nat} {i : Nat} (hi : i < p.length) : lnDone C p t i < 0 ↔ lineS C p t < preS p (i + 1) := by
  have h1 := preS_lt h (show 0 < i + 1 by omega) (show i + 1 ≤ p.length by omega)
  have h0 : preS p 0 = 0 := rfl
  rcases Nat.eq_zero_or_pos t with c | c
  · subst c
    show (-1 : Int) < 0 ↔ (0 : Int) < preS p (i + 1)
    omega
  · have h2 := doneF_iff (S := lineS C p) (preS p (i + 1)) t (fun s _ => lineS_step h hC s) t c (Nat.le_refl _)
    have h3 := doneF_bd (lineS C p) (preS p (i + 1)) t
    unfold lnDone
    omega
theorem dnM_start (h : Trc p) (hC : 0 ≤ C) {t : Nat} {i : Nat} (hi : i < p.length) : dnM C p t (lineS C p t) i = lnDone C p t i := by
  unfold dnM
  rw [if_neg]
  intro x
  have := (lnDone_iff h hC hi).1 x.2
  omega
theorem dnM_send (h : Trc p) (hC : 0 ≤ C) {t : Nat} {B d : Int} {k : Nat} (hk : k < p.length) (h0 : lineS C p t ≤ B) (h1 : preS p k ≤ B) (h1' : B < preS p (k + 1)) (hd : 0 ≤ d) (h2 : B + d ≤ preS p (k + 1)) {i : Nat} (hi : i < p.length) :
    dnM C p t (B + d) i = if i = k ∧ B + d = preS p (k + 1) then (t : Int) else dnM C p t B i := by
  unfold dnM
  by_cases e : i = k
  · subst e
    have hl := (lnDone_iff h hC (t := t) hk).2 (by omega)
    by_cases c : B + d = preS p (i + 1)
    · rw [if_pos (c := i = i ∧ B + d = preS p (i + 1)) ⟨rfl, c⟩, if_pos ⟨by omega, hl⟩]
    · rw [if_neg (c := i = i ∧ B + d = preS p (i + 1)) (fun x => c x.2), if_neg (fun x => absurd x.1 (by omega)), if_neg (fun x => absurd x.1 (by omega))]
  · rw [if_neg (c := i = k ∧ B + d = preS p (k + 1)) (fun x => e x.1)]
    have hiff : preS p (i + 1) ≤ B + d ↔ preS p (i + 1) ≤ B := by
      rcases Nat.lt_or_gt_of_ne e with c | c
      · have := preS_mono h.nn (show i + 1 ≤ k by omega); omega
      · have := preS_lt h (show k + 1 < i + 1 by omega) (by omega); omega
    simp only [hiff]
end
end Go.Proofs.Ytkienpbmoilheaa

namespace Go.Proofs.Ytkienpbmoilheaa
set_option linter.unusedSimpArgs false
set_option linter.unusedVariables false

theorem sent_three {p : List Pk} (hf : ∀ i, i < p.length → (p.getD i default).f ≤ 2) (hT : Trc p) {B : Int} (h0 : 0 ≤ B) (h1 : B ≤ preS p p.length) : sentF p 0 B + sentF p 1 B + sentF p 2 B = B := by
  have h2 := gvn_sum hT.nn h0 p.length
  unfold sentF
  rw [← sumI_add, ← sumI_add, sumI_congr (h := gvn p B) p.length (fun i hi => by
    have a1 := hf i hi
    have a2 := (hT.fl i hi).1
    rcases (show (p.getD i default).f = 0 ∨ (p.getD i default).f = 1 ∨ (p.getD i default).f = 2 by omega) with e | e | e <;> rw [e] <;> simp), h2]
  omega
/-- At some tick all that had arrived was sent, and since then the capacity in each. -/
theorem line_serves {p : List Pk} {C : Int} (hT : Trc p) : ∀ t : Nat, ∃ s, s ≤ t ∧ lineS C p t = arrT p (s : Int) + C * ((t : Int) - (s : Int))
  | 0 => ⟨0, Nat.le_refl _, by show 0 = arrT p 0 + C * ((0 : Int) - 0); rw [arrT_zero hT]; simp⟩
  | t + 1 => by
    obtain ⟨s, hs, e⟩ := line_serves hT t
    by_cases c : arrT p ((t + 1 : Nat) : Int) ≤ lineS C p t + C
    · exact ⟨t + 1, Nat.le_refl _, by rw [lineS_succ, Int.min_eq_right c]; simp⟩
    · refine ⟨s, by omega, ?_⟩
      rw [lineS_succ, Int.min_eq_left (by omega), e, show ((t + 1 : Nat) : Int) - (s : Int) = ((t : Int) - (s : Int)) + 1 by omega, Int.mul_add, Int.mul_one]
      omega
theorem line_busy {p : List Pk} {C : Int} {s : Nat} : ∀ t : Nat, s ≤ t → (∀ u : Nat, s < u → u ≤ t → lineS C p u < arrT p (u : Int)) → lineS C p t - lineS C p s = C * ((t : Int) - (s : Int))
  | 0, h, _ => by rw [show s = 0 by omega]; simp
  | t + 1, h, hb => by
    by_cases c : s = t + 1
    · subst c; simp
    · have ih := line_busy (C := C) (p := p) (s := s) t (by omega) (fun u h1 h2 => hb u h1 (by omega))
      have h1 := hb (t + 1) (by omega) (Nat.le_refl _)
      have h2 := lineS_succ C p t
      rw [show ((t + 1 : Nat) : Int) - (s : Int) = ((t : Int) - (s : Int)) + 1 by omega, Int.mul_add, Int.mul_one]
      omega
theorem doneF_le {S : Nat → Int} (hm : ∀ t, S t ≤ S (t + 1)) {P Q : Int} (h : P ≤ Q) : ∀ T, (0 ≤ doneF S Q T → 0 ≤ doneF S P T ∧ doneF S P T ≤ doneF S Q T)
  | 0 => fun x => absurd x (by show ¬ (0 : Int) ≤ -1; omega)
  | T + 1 => by
    have ih := doneF_le hm h T
    have b1 := doneF_bd S P T
    have b2 := doneF_bd S Q T
    rw [doneF_succ, doneF_succ]
    by_cases c : doneF S Q T < 0
    · by_cases d : Q ≤ S (T + 1)
      · rw [if_pos (c := Q ≤ S (T + 1) ∧ _) ⟨d, c⟩]
        intro _
        split <;> omega
      · rw [if_neg (c := Q ≤ S (T + 1) ∧ _) (fun x => d x.1)]
        intro x; omega
    · rw [if_neg (c := Q ≤ S (T + 1) ∧ _) (fun x => c x.2), if_neg (fun x => by have := ih (by omega); omega)]
      exact ih
/-- Packets are finished in the order of the list, and behind their arrival. -/
theorem done_order {p : List Pk} (hT : Trc p) {C : Int} (hC : 0 ≤ C) {i j T : Nat} (hij : i ≤ j) (h : 0 ≤ lnDone C p T j) : 0 ≤ lnDone C p T i ∧ lnDone C p T i ≤ lnDone C p T j :=
  doneF_le (lineS_step hT hC) (preS_mono hT.nn (by omega)) T h
theorem done_after {p : List Pk} (hT : Trc p) {C : Int} (hC : 0 ≤ C) {i T : Nat} (hi : i < p.length) (h : 0 ≤ lnDone C p T i) : (p.getD i default).t ≤ lnDone C p T i := by
  have hb := doneF_bd (lineS C p) (preS p (i + 1)) T
  obtain ⟨d, hd⟩ : ∃ d : Nat, lnDone C p T i = (d : Int) := ⟨(lnDone C p T i).toNat, by omega⟩
  have hdT : d + 1 ≤ T := by
    unfold lnDone at hd h
    rcases Nat.eq_zero_or_pos T with c | c
    · subst c; exact absurd h (by show ¬ (0 : Int) ≤ -1; omega)
    · omega
  have h1 := (doneF_iff (S := lineS C p) (preS p (i + 1)) T (fun s _ => lineS_step hT hC s) (d + 1) (by omega) hdT).1 (by unfold lnDone at hd h; omega)
  have h2 := lineS_arr (C := C) hT (d + 1)
  have h3 := done_late hT.asc (fun i hi => (hT.sz i hi).1) hT.nn hi (t := ((d + 1 : Nat) : Int)) (by omega)
  omega
end Go.Proofs.Ytkienpbmoilheaa
