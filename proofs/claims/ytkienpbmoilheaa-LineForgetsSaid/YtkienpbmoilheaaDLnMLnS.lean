/- The mathematics of a line that sends packets in the order of their arrival: what is sent before each tick, in a closed form. Nothing here speaks of the program. By the verifier's side. -/
import Derived.Test.YtkienpbmoilheaaDPkS
namespace Go.Proofs.Ytkienpbmoilheaa
set_option linter.unusedSimpArgs false
set_option linter.unusedVariables false

/-- What is sent before each tick: the capacity in each, or all that has arrived. -/
def lineS (C : Int) (p : List Pk) : Nat → Int
  | 0 => 0
  | t + 1 => min (lineS C p t + C) (arrT p ((t + 1 : Nat) : Int))
theorem lineS_succ (C : Int) (p : List Pk) (t : Nat) : lineS C p (t + 1) = min (lineS C p t + C) (arrT p ((t + 1 : Nat) : Int)) := rfl
/-- A number, held between 0 and s. -/
def clp (x s : Int) : Int := if x ≤ 0 then 0 else if s ≤ x then s else x
/-- What a packet has got, of B bytes. -/
def gvn (p : List Pk) (B : Int) (i : Nat) : Int := clp (B - preS p i) (szI p i)
/-- What a class has got, of B bytes. -/
def sentF (p : List Pk) (c B : Int) : Int := sumI (fun i => if (p.getD i default).f = c then gvn p B i else 0) p.length
/-- The packets of a trace have sizes, and stand in the order of their ticks. -/
structure Trc (p : List Pk) : Prop where
  asc : Asc p
  sz : ∀ i, i < p.length → 1 ≤ szI p i ∧ szI p i ≤ 1500
  nn : ∀ i, 0 ≤ szI p i
  len : p.length ≤ 60
  tm : ∀ i, i < p.length → 0 ≤ (p.getD i default).t ∧ (p.getD i default).t ≤ 2000
  fl : ∀ i, i < p.length → 0 ≤ (p.getD i default).f ∧ (p.getD i default).f ≤ 59
theorem trc_of {p : List Pk} (hl : p.length ≤ 60) (hok : ∀ q ∈ p, okP q = true) (ha : Asc p) : Trc p := by
  have h : ∀ i, i < p.length → 0 ≤ (p.getD i default).f ∧ (p.getD i default).f ≤ 59 ∧ 0 ≤ (p.getD i default).t ∧ (p.getD i default).t ≤ 2000 ∧ 1 ≤ (p.getD i default).s ∧ (p.getD i default).s ≤ 1500 := fun i hi => by
    have hm : p.getD i default ∈ p := by rw [List.getD_eq_getElem?_getD, List.getElem?_eq_getElem hi]; exact List.getElem_mem _
    exact (okP_iff _).1 (hok _ hm)
  refine ⟨ha, fun i hi => by have := h i hi; unfold szI; omega, fun i => ?_, hl, fun i hi => by have := h i hi; omega, fun i hi => by have := h i hi; omega⟩
  rcases Nat.lt_or_ge i p.length with hi | hi
  · have := h i hi; unfold szI; omega
  · unfold szI; rw [List.getD_eq_getElem?_getD, List.getElem?_eq_none hi]; exact Int.le_refl 0

section
variable {p : List Pk} {C : Int}
theorem clp_bd {x s : Int} (hs : 0 ≤ s) : 0 ≤ clp x s ∧ clp x s ≤ s := by unfold clp; split; omega; split <;> omega
theorem preS_succ (p : List Pk) (k : Nat) : preS p (k + 1) = preS p k + szI p k := rfl
theorem preS_mono (h : ∀ i, 0 ≤ szI p i) {i j : Nat} (hij : i ≤ j) : preS p i ≤ preS p j := sumI_part h j hij
theorem preS_lt (h : Trc p) {i j : Nat} (hij : i < j) (hj : j ≤ p.length) : preS p i < preS p j := by
  have h1 := preS_mono h.nn (show i + 1 ≤ j by omega)
  have h2 := h.sz i (by omega)
  have h3 := preS_succ p i
  omega
theorem preS_bd (h : Trc p) : ∀ k, k ≤ p.length → 0 ≤ preS p k ∧ preS p k ≤ 1500 * (k : Int)
  | 0, _ => ⟨Int.le_refl _, Int.le_refl _⟩
  | k + 1, hk => by
    have := preS_bd h k (by omega)
    have := h.sz k (by omega)
    rw [preS_succ]; omega
theorem preS_top (h : Trc p) : 0 ≤ preS p p.length ∧ preS p p.length ≤ 90000 := by have := preS_bd h p.length (Nat.le_refl _); have := h.len; omega
theorem gvn_bd (h : ∀ i, 0 ≤ szI p i) (B : Int) (i : Nat) : 0 ≤ gvn p B i ∧ gvn p B i ≤ szI p i := clp_bd (h i)
theorem gvn_zero {B : Int} {i : Nat} (hb : B ≤ preS p i) : gvn p B i = 0 := by unfold gvn clp; rw [if_pos (by omega)]
theorem gvn_full {B : Int} {i : Nat} (h : 0 ≤ szI p i) (hb : preS p (i + 1) ≤ B) : gvn p B i = szI p i := by
  have := preS_succ p i
  unfold gvn clp
  split
  · omega
  · rw [if_pos (by omega)]
theorem gvn_mid {B : Int} {i : Nat} (h1 : preS p i ≤ B) (h2 : B ≤ preS p (i + 1)) : gvn p B i = B - preS p i := by
  have := preS_succ p i
  unfold gvn clp
  split
  · omega
  · split <;> omega
/-- d more bytes go to the packet at which the line is. -/
theorem gvn_step (h : ∀ i, 0 ≤ szI p i) {B d : Int} {k : Nat} (h1 : preS p k ≤ B) (hd : 0 ≤ d) (h2 : B + d ≤ preS p (k + 1)) (i : Nat) : gvn p (B + d) i = gvn p B i + (if i = k then d else 0) := by
  by_cases e : i = k
  · subst e
    rw [if_pos rfl, gvn_mid (by omega) h2, gvn_mid h1 (by omega)]; omega
  · rw [if_neg e]
    rcases Nat.lt_or_gt_of_ne e with c | c
    · have := preS_mono h (show i + 1 ≤ k by omega)
      rw [gvn_full (h i) (by omega), gvn_full (h i) (by omega)]; omega
    · have := preS_mono h (show k + 1 ≤ i by omega)
      rw [gvn_zero (by omega), gvn_zero (by omega)]; rfl
theorem sumI_add (g k : Nat → Int) : ∀ n, sumI (fun i => g i + k i) n = sumI g n + sumI k n
  | 0 => rfl
  | n + 1 => by rw [sumI_succ, sumI_succ, sumI_succ, sumI_add g k n]; omega
theorem sumI_one {k : Nat} {d : Int} : ∀ n, sumI (fun i => if i = k then d else 0) n = if k < n then d else 0
  | 0 => by rw [if_neg (by omega)]; rfl
  | n + 1 => by
    rw [sumI_succ, sumI_one n]
    by_cases e : n = k
    · subst e; rw [if_neg (by omega), if_pos rfl, if_pos (by omega)]; omega
    · rw [if_neg e]
      by_cases c : k < n
      · rw [if_pos c, if_pos (by omega)]; omega
      · rw [if_neg c, if_neg (by omega)]; rfl
theorem sent_step (h : ∀ i, 0 ≤ szI p i) {B d : Int} {k : Nat} (hk : k < p.length) (h1 : preS p k ≤ B) (hd : 0 ≤ d) (h2 : B + d ≤ preS p (k + 1)) (c : Int) :
    sentF p c (B + d) = sentF p c B + (if (p.getD k default).f = c then d else 0) := by
  unfold sentF
  rw [sumI_congr (h := fun i => (if (p.getD i default).f = c then gvn p B i else 0) + (if i = k then (if (p.getD k default).f = c then d else 0) else 0)) p.length (fun i hi => by
    rw [gvn_step h h1 hd h2 i]
    by_cases e : i = k
    · subst e; rw [if_pos rfl, if_pos rfl]; split <;> omega
    · rw [if_neg e, if_neg e, Int.add_zero, Int.add_zero]), sumI_add, sumI_one, if_pos hk]
theorem sumI_zero : ∀ n, sumI (fun _ => 0) n = 0
  | 0 => rfl
  | n + 1 => by rw [sumI_succ, sumI_zero n]; rfl
theorem sent_zero {B : Int} (h : ∀ i, 0 ≤ szI p i) (hb : B ≤ 0) (c : Int) : sentF p c B = 0 := by
  unfold sentF
  rw [sumI_congr (h := fun _ => 0) p.length (fun i hi => by
    rw [gvn_zero (Int.le_trans hb (sumI_nn _ fun j _ => h j))]; split <;> rfl), sumI_zero]
theorem sent_bd (h : ∀ i, 0 ≤ szI p i) (c B : Int) : 0 ≤ sentF p c B ∧ sentF p c B ≤ preS p p.length :=
  ⟨sumI_nn _ fun i _ => by have := gvn_bd h B i; (try dsimp only); split <;> omega, sumI_le _ fun i _ => by have := gvn_bd h B i; have := h i; (try dsimp only); split <;> omega⟩
theorem arrT_zero (h : Trc p) : arrT p 0 = 0 := by
  unfold arrT
  rw [sumI_congr (h := fun _ => 0) p.length (fun i hi => if_neg (by have := h.tm i hi; omega)), sumI_zero]
theorem lineS_arr (h : Trc p) : ∀ t : Nat, lineS C p t ≤ arrT p (t : Int)
  | 0 => by show 0 ≤ arrT p 0; rw [arrT_zero h]; exact Int.le_refl _
  | t + 1 => by rw [lineS_succ]; omega
theorem lineS_step (h : Trc p) (hC : 0 ≤ C) (t : Nat) : lineS C p t ≤ lineS C p (t + 1) := by
  have h1 := lineS_arr (C := C) h t
  have h2 := arrT_mono h.nn (show ((t : Nat) : Int) ≤ ((t + 1 : Nat) : Int) by omega)
  rw [lineS_succ]; omega
/-- The tick in which a packet is finished, or -1. -/
def lnDone (C : Int) (p : List Pk) (T : Nat) (i : Nat) : Int := doneF (lineS C p) (preS p (i + 1)) T

/-- In the middle of a tick: B bytes were sent, room for R is left. -/
structure MidL (C : Int) (p : List Pk) (t : Nat) (B R : Int) : Prop where
  lo : lineS C p t ≤ B
  hi : B ≤ arrT p ((t + 1 : Nat) : Int)
  sum : B + R = lineS C p t + C
  nn : 0 ≤ R
theorem mid_start (h : Trc p) (hC : 0 ≤ C) (t : Nat) : MidL C p t (lineS C p t) C :=
  ⟨Int.le_refl _, Int.le_trans (lineS_arr h t) (arrT_mono h.nn (by omega)), rfl, hC⟩
/-- No room is left. -/
theorem mid_full {t : Nat} {B : Int} (h : MidL C p t B 0) : B = lineS C p (t + 1) := by have := h.lo; have := h.hi; have := h.sum; rw [lineS_succ]; omega
/-- Nothing waits. -/
theorem mid_idle (hT : Trc p) {t : Nat} {B R : Int} (h : MidL C p t B R) {k : Nat} (hk : k ≤ p.length) (hB : B = preS p k) (hn : k < p.length → (t : Int) < (p.getD k default).t) : B = lineS C p (t + 1) := by
  have h1 := h.hi
  have h2 := h.sum
  have h3 := h.nn
  have h4 : arrT p ((t + 1 : Nat) : Int) ≤ B := by
    by_cases c : k < p.length
    · rw [hB]; exact arrT_le hT.asc hT.nn c (by have := hn c; omega)
    · rw [hB, show k = p.length by omega]; exact arrT_up hT.nn _
  rw [lineS_succ]; omega
/-- A packet that has arrived is sent on. -/
theorem mid_send (hT : Trc p) {t : Nat} {B R d : Int} (h : MidL C p t B R) {k : Nat} (hk : k < p.length) (ht : (p.getD k default).t ≤ (t : Int)) (hd : 0 ≤ d) (hdR : d ≤ R) (hdk : B + d ≤ preS p (k + 1)) : MidL C p t (B + d) (R - d) := by
  have h1 := arrT_ge hT.asc hT.nn hk (u := ((t + 1 : Nat) : Int)) (by omega)
  exact ⟨by have := h.lo; omega, by omega, by have := h.sum; omega, by omega⟩
/-- The ticks in which packets are finished, in the middle of a tick. -/
def dnM (C : Int) (p : List Pk) (t : Nat) (B : Int) (i : Nat) : Int := if preS p (i + 1) ≤ B ∧ lnDone C p t i < 0 then (t : Int) else lnDone C p t i
/-- It is known ahead if the last byte was sent before. -/
theorem lnDone_iff (h : Trc p) (hC : 0 ≤ C) {t : Nat} {i : Nat} (hi : i < p.length) : lnDone C p t i < 0 ↔ lineS C p t < preS p (i + 1) := by
  have h1 := preS_lt h (show 0 < i + 1 by omega) (show i + 1 ≤ p.length by omega)
  have h0 : preS p 0 = 0 := rfl
  rcases Nat.eq_zero_or_pos t with c | c
  · subst c
    show (-1 : Int) < 0 ↔ (0 : Int) < preS p (i + 1)
    omega
  · have h2 := doneF_iff (S := lineS C p) (preS p (i + 1)) t (fun s _ => lineS_step h hC s) t c (Nat.le_refl _)
    have h3 := doneF_bd (lineS C p) (preS p (i + 1)) t
    unfold lnDone
    omega
theorem dnM_start (h : Trc p) (hC : 0 ≤ C) {t : Nat} {i : Nat} (hi : i < p.length) : dnM C p t (lineS C p t) i = lnDone C p t i := by
  unfold dnM
  rw [if_neg]
  intro x
  have := (lnDone_iff h hC hi).1 x.2
  omega
theorem dnM_send (h : Trc p) (hC : 0 ≤ C) {t : Nat} {B d : Int} {k : Nat} (hk : k < p.length) (h0 : lineS C p t ≤ B) (h1 : preS p k ≤ B) (h1' : B < preS p (k + 1)) (hd : 0 ≤ d) (h2 : B + d ≤ preS p (k + 1)) {i : Nat} (hi : i < p.length) :
    dnM C p t (B + d) i = if i = k ∧ B + d = preS p (k + 1) then (t : Int) else dnM C p t B i := by
  unfold dnM
  by_cases e : i = k
  · subst e
    have hl := (lnDone_iff h hC (t := t) hk).2 (by omega)
    by_cases c : B + d = preS p (i + 1)
    · rw [if_pos (c := i = i ∧ B + d = preS p (i + 1)) ⟨rfl, c⟩, if_pos ⟨by omega, hl⟩]
    · rw [if_neg (c := i = i ∧ B + d = preS p (i + 1)) (fun x => c x.2), if_neg (fun x => absurd x.1 (by omega)), if_neg (fun x => absurd x.1 (by omega))]
  · rw [if_neg (c := i = k ∧ B + d = preS p (k + 1)) (fun x => e x.1)]
    have hiff : preS p (i + 1) ≤ B + d ↔ preS p (i + 1) ≤ B := by
      rcases Nat.lt_or_gt_of_ne e with c | c
      · have := preS_mono h.nn (show i + 1 ≤ k by omega); omega
      · have := preS_lt h (show k + 1 < i + 1 by omega) (by omega); omega
    simp only [hiff]
end
end Go.Proofs.Ytkienpbmoilheaa

namespace Go.Proofs.Ytkienpbmoilheaa
set_option linter.unusedSimpArgs false
set_option linter.unusedVariables false

theorem doneF_stable {S : Nat → Int} {P : Int} {T : Nat} (h : ¬ doneF S P T < 0) : ∀ n : Nat, doneF S P (T + n) = doneF S P T
  | 0 => rfl
  | n + 1 => by
    have ih := doneF_stable h n
    show doneF S P ((T + n) + 1) = _
    rw [doneF_succ, ih, if_neg (fun x => h x.2)]
theorem szI_none {p : List Pk} {i : Nat} (h : p.length ≤ i) : szI p i = 0 := by
  unfold szI; rw [List.getD_eq_getElem?_getD, List.getElem?_eq_none h]; rfl
/-- The packets of the ticks before n. -/
def earlyP (n : Int) (p : List Pk) : List Pk := p.filter fun q => decide (q.t < n)
theorem early_take {n : Int} : ∀ p : List Pk, Asc p → ∃ m, m ≤ p.length ∧ earlyP n p = p.take m ∧ (∀ i, i < m → (p.getD i default).t < n) ∧ ∀ i, m ≤ i → i < p.length → n ≤ (p.getD i default).t
  | [], _ => ⟨0, Nat.le_refl _, rfl, fun i hi => by omega, fun i h1 h2 => absurd h2 (Nat.not_lt_zero _)⟩
  | q :: r, h => by
    obtain ⟨h1, h2⟩ := asc_cons.1 h
    by_cases c : q.t < n
    · obtain ⟨m, hm, he, h3, h4⟩ := early_take (n := n) r h2
      refine ⟨m + 1, by simp; omega, ?_, fun i hi => ?_, fun i hi hl => ?_⟩
      · unfold earlyP at he ⊢
        rw [List.filter_cons_of_pos (by simpa using c), he]; rfl
      · rcases i with _ | i
        · exact c
        · exact h3 i (by omega)
      · rcases i with _ | i
        · omega
        · exact h4 i (by omega) (by simpa using hl)
    · have hall : ∀ x ∈ q :: r, ¬ x.t < n := fun x hx => by
        rcases List.mem_cons.1 hx with e | e
        · rw [e]; exact c
        · have := h1 x e; omega
      refine ⟨0, Nat.zero_le _, ?_, fun i hi => by omega, fun i _ hl => ?_⟩
      · unfold earlyP
        rw [List.take_zero, List.filter_eq_nil_iff]
        intro x hx; simpa using hall x hx
      · have := hall ((q :: r).getD i default) (by rw [List.getD_eq_getElem?_getD, List.getElem?_eq_getElem hl]; exact List.getElem_mem _)
        omega
theorem getD_takeP {p : List Pk} {m i : Nat} (h : i < m) : (p.take m).getD i default = p.getD i default := by
  rw [List.getD_eq_getElem?_getD, List.getD_eq_getElem?_getD, List.getElem?_take_of_lt h]
theorem preS_take {p : List Pk} {m k : Nat} (h : k ≤ m) : preS (p.take m) k = preS p k := sumI_congr _ fun i hi => by unfold szI; rw [getD_takeP (by omega)]
theorem arrT_take {p : List Pk} {m : Nat} (hm : m ≤ p.length) {n t : Int} (ht : t ≤ n) (h : ∀ i, m ≤ i → i < p.length → n ≤ (p.getD i default).t) : arrT (p.take m) t = arrT p t := by
  unfold arrT
  rw [List.length_take, Nat.min_eq_left hm, sumI_split (g := fun i => if (p.getD i default).t < t then szI p i else 0) (m := m) p.length hm (fun i h1 h2 => if_neg (by have := h i h1 h2; omega))]
  exact sumI_congr _ fun i hi => by unfold szI; rw [getD_takeP hi]
theorem lineS_take {p : List Pk} {m : Nat} {C : Int} (hm : m ≤ p.length) {n : Nat} (h : ∀ i, m ≤ i → i < p.length → (n : Int) ≤ (p.getD i default).t) : ∀ t : Nat, t ≤ n → lineS C (p.take m) t = lineS C p t
  | 0, _ => rfl
  | t + 1, ht => by rw [lineS_succ, lineS_succ, lineS_take hm h t (by omega), arrT_take hm (show ((t + 1 : Nat) : Int) ≤ (n : Int) by omega) h]
theorem gvn_take {p : List Pk} {m i : Nat} (h : i < m) (B : Int) : gvn (p.take m) B i = gvn p B i := by unfold gvn szI; rw [preS_take (by omega), getD_takeP h]
theorem sent_take {p : List Pk} {m : Nat} (hm : m ≤ p.length) (hn : ∀ i, 0 ≤ szI p i) {B : Int} (hB : B ≤ preS p m) (c : Int) : sentF (p.take m) c B = sentF p c B := by
  unfold sentF
  rw [List.length_take, Nat.min_eq_left hm, sumI_split (g := fun i => if (p.getD i default).f = c then gvn p B i else 0) (m := m) p.length hm (fun i h1 h2 => by
    have := preS_mono hn h1
    (try dsimp only)
    rw [gvn_zero (by omega)]; split <;> rfl)]
  exact sumI_congr _ fun i hi => by rw [gvn_take hi, getD_takeP hi]
theorem trc_take {p : List Pk} (h : Trc p) (m : Nat) : Trc (p.take m) := by
  have hlt : ∀ i, i < (p.take m).length → i < m ∧ i < p.length := fun i hi => by rw [List.length_take] at hi; omega
  refine ⟨List.Pairwise.sublist (List.take_sublist _ _) h.asc, fun i hi => ?_, fun i => ?_, ?_, fun i hi => ?_, fun i hi => ?_⟩
  · unfold szI; rw [getD_takeP (hlt i hi).1]; exact h.sz i (hlt i hi).2
  · rcases Nat.lt_or_ge i (p.take m).length with c | c
    · unfold szI; rw [getD_takeP (hlt i c).1]; exact h.nn i
    · rw [szI_none c]; exact Int.le_refl _
  · rw [List.length_take]; have := h.len; omega
  · rw [getD_takeP (hlt i hi).1]; exact h.tm i (hlt i hi).2
  · rw [getD_takeP (hlt i hi).1]; exact h.fl i (hlt i hi).2
/-- What the law asks of the ticks. -/
theorem done_early {p : List Pk} (hT : Trc p) {C : Int} (hC : 0 ≤ C) {m : Nat} (hm : m ≤ p.length) {n : Nat} (h : ∀ i, m ≤ i → i < p.length → (n : Int) ≤ (p.getD i default).t) {i : Nat} (hi : i < m) (k : Nat)
    (hc : 0 ≤ lnDone C p n i ∨ 0 ≤ lnDone C (p.take m) (n + k) i ∧ lnDone C (p.take m) (n + k) i < (n : Int)) : lnDone C p n i = lnDone C (p.take m) (n + k) i := by
  have hT' := trc_take hT m
  have hlm : (p.take m).length = m := by rw [List.length_take]; omega
  have e1 : lnDone C (p.take m) n i = lnDone C p n i := by
    unfold lnDone
    rw [preS_take (by omega)]
    exact doneF_congr _ n (fun t ht => lineS_take hm h t ht)
  have hst : ¬ lnDone C p n i < 0 := by
    intro hneg
    rcases hc with h1 | ⟨h1, h2⟩
    · omega
    · have hn : 1 ≤ n := by omega
      have h3 := (doneF_iff (S := lineS C (p.take m)) (preS (p.take m) (i + 1)) (n + k) (fun s _ => lineS_step hT' hC s) n hn (by omega)).1 ⟨h1, by unfold lnDone at h2; omega⟩
      have h4 := (lnDone_iff hT' hC (t := n) (i := i) (by omega)).1 (by rw [e1]; exact hneg)
      omega
  rw [← e1]
  exact (doneF_stable (by rw [← e1] at hst; exact hst) k).symm
theorem done_none {p : List Pk} (hT : Trc p) {C : Int} (hC : 0 ≤ C) {m : Nat} {n : Nat} (h : ∀ i, m ≤ i → i < p.length → (n : Int) ≤ (p.getD i default).t) {i : Nat} (hmi : m ≤ i) (hi : i < p.length) : lnDone C p n i = -1 := by
  have h1 := lineS_arr (C := C) hT n
  have h2 := arrT_le hT.asc hT.nn (m := i) hi (u := (n : Int)) (h i hmi hi)
  have h3 := preS_lt hT (show i < i + 1 by omega) (by omega)
  have h4 := (lnDone_iff hT hC (t := n) hi).2 (by omega)
  have h5 := doneF_bd (lineS C p) (preS p (i + 1)) n
  unfold lnDone at h4 ⊢
  omega
theorem early_bd {p : List Pk} (hT : Trc p) {C : Int} {m : Nat} (hm : m ≤ p.length) {n : Nat} (h : ∀ i, m ≤ i → i < p.length → (n : Int) ≤ (p.getD i default).t) {t : Nat} (ht : t ≤ n) : lineS C p t ≤ preS p m := by
  have h1 := lineS_arr (C := C) hT t
  have h2 := arrT_mono hT.nn (show ((t : Nat) : Int) ≤ (n : Int) by omega)
  rcases Nat.lt_or_ge m p.length with c | c
  · have := arrT_le hT.asc hT.nn c (h m (Nat.le_refl _) c); omega
  · have := arrT_up hT.nn (n : Int)
    rw [show m = p.length by omega]; omega
end Go.Proofs.Ytkienpbmoilheaa
