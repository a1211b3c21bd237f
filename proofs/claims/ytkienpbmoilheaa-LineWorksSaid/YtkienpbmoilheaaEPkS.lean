/- The mathematics of the theorem of the hop: what is sent, when packets are complete, what has arrived behind. Nothing here speaks of the program. By the verifier's side. -/
import Derived.Sort.Defs
import Derived.Test.YtkienpbmoilheaaETrM
namespace Go.Proofs.Ytkienpbmoilheaa
set_option linter.unusedSimpArgs false
set_option linter.unusedVariables false

/-- A sum over the first numbers. -/
def sumI (g : Nat → Int) : Nat → Int
  | 0 => 0
  | n + 1 => sumI g n + g n
theorem sumI_succ (g : Nat → Int) (n : Nat) : sumI g (n + 1) = sumI g n + g n := rfl
theorem sumI_congr {g h : Nat → Int} : ∀ n, (∀ i, i < n → g i = h i) → sumI g n = sumI h n
  | 0, _ => rfl
  | n + 1, e => by unfold sumI; rw [sumI_congr n (fun i hi => e i (by omega)), e n (by omega)]
theorem sumI_le {g h : Nat → Int} : ∀ n, (∀ i, i < n → g i ≤ h i) → sumI g n ≤ sumI h n
  | 0, _ => Int.le_refl _
  | n + 1, e => by unfold sumI; have := sumI_le n (fun i hi => e i (by omega)); have := e n (by omega); omega
theorem sumI_nn {g : Nat → Int} : ∀ n, (∀ i, i < n → 0 ≤ g i) → 0 ≤ sumI g n
  | 0, _ => Int.le_refl _
  | n + 1, e => by unfold sumI; have := sumI_nn n (fun i hi => e i (by omega)); have := e n (by omega); omega
theorem sumI_part {g : Nat → Int} {m : Nat} (e : ∀ i, 0 ≤ g i) : ∀ n, m ≤ n → sumI g m ≤ sumI g n
  | 0, h => by rw [show m = 0 by omega]; exact Int.le_refl _
  | n + 1, h => by
    by_cases c : m = n + 1
    · rw [c]; exact Int.le_refl _
    · have := sumI_part (m := m) e n (by omega); have := e n; rw [sumI_succ]; omega
/-- The sum of a list, by places. -/
theorem sumG_I (g : Pk → Int) (l : List Pk) : ∀ k, k ≤ l.length → sumG g (l.take k) = sumI (fun i => g (l.getD i default)) k
  | 0, _ => by simp [sumG, sumI]
  | k + 1, h => by
    unfold sumI
    rw [sumG_take g l k (by omega), sumG_I g l k (by omega)]
    congr 2
    rw [List.getD_eq_getElem?_getD, List.getElem?_eq_getElem (by omega), getElem!_pos l k (by omega)]; rfl
theorem sumG_all (g : Pk → Int) (l : List Pk) : sumG g l = sumI (fun i => g (l.getD i default)) l.length := by
  have := sumG_I g l l.length (Nat.le_refl _)
  rwa [List.take_length] at this
/-- The size of the packet at a place, and those of the first k. -/
def szI (p : List Pk) (i : Nat) : Int := (p.getD i default).s
def preS (p : List Pk) (k : Nat) : Int := sumI (szI p) k
/-- What has arrived before a tick. -/
def arrT (p : List Pk) (t : Int) : Int := sumI (fun i => if (p.getD i default).t < t then szI p i else 0) p.length
/-- When the last of P bytes is sent, of S(t) that are sent before each tick up to T. -/
def doneF (S : Nat → Int) (P : Int) : Nat → Int
  | 0 => -1
  | T + 1 => if P ≤ S (T + 1) ∧ doneF S P T < 0 then (T : Int) else doneF S P T
theorem doneF_succ (S : Nat → Int) (P : Int) (T : Nat) : doneF S P (T + 1) = if P ≤ S (T + 1) ∧ doneF S P T < 0 then (T : Int) else doneF S P T := rfl
theorem doneF_bd (S : Nat → Int) (P : Int) : ∀ T : Nat, -1 ≤ doneF S P T ∧ doneF S P T < max (T : Int) 1
  | 0 => by unfold doneF; omega
  | T + 1 => by
    have := doneF_bd S P T
    rw [doneF_succ]
    split <;> omega
theorem doneF_iff {S : Nat → Int} (P : Int) : ∀ T : Nat, (∀ t, t < T → S t ≤ S (t + 1)) → ∀ t : Nat, 1 ≤ t → t ≤ T → ((0 ≤ doneF S P T ∧ doneF S P T + 1 ≤ (t : Int)) ↔ P ≤ S t)
  | 0, _, t, h1, h2 => by omega
  | T + 1, hm, t, h1, h2 => by
    have ih := doneF_iff P T (fun t ht => hm t (by omega))
    have hb := doneF_bd S P T
    by_cases c : doneF S P T < 0
    · by_cases e : t = T + 1
      · subst e
        rw [doneF_succ]
        by_cases d : P ≤ S (T + 1)
        · rw [if_pos ⟨d, c⟩]
          constructor
          · intro _; exact d
          · intro _; omega
        · rw [if_neg (fun x => d x.1)]
          constructor
          · intro x; omega
          · intro x; exact absurd x d
      · have h3 := ih t h1 (by omega)
        have h4 : ¬ P ≤ S t := fun x => by have := h3.2 x; omega
        rw [doneF_succ]
        split
        · constructor
          · intro x; omega
          · intro x; exact absurd x h4
        · exact h3
    · have e1 : doneF S P (T + 1) = doneF S P T := by rw [doneF_succ, if_neg (fun x => c x.2)]
      rw [e1]
      by_cases e : t = T + 1
      · subst e
        have hT : 1 ≤ T := by
          rcases Nat.eq_zero_or_pos T with h0 | h0
          · subst h0; unfold doneF at c; omega
          · exact h0
        obtain ⟨x, hx⟩ : ∃ x : Nat, doneF S P T + 1 = (x : Int) := ⟨(doneF S P T + 1).toNat, by omega⟩
        have h3 := (ih T hT (Nat.le_refl _)).1 ⟨by omega, by omega⟩
        have h4 := hm T (by omega)
        constructor
        · intro _; omega
        · intro _; omega
      · exact ih t h1 (by omega)

section
variable {p : List Pk}
theorem arrT_mono (hs : ∀ i, 0 ≤ szI p i) {s t : Int} (h : s ≤ t) : arrT p s ≤ arrT p t := sumI_le _ fun i _ => by
  show (if (p.getD i default).t < s then szI p i else 0) ≤ (if (p.getD i default).t < t then szI p i else 0)
  have := hs i
  split
  · rw [if_pos (by omega)]; exact Int.le_refl _
  · split <;> omega
theorem arrT_nn (hs : ∀ i, 0 ≤ szI p i) (t : Int) : 0 ≤ arrT p t := sumI_nn _ fun i _ => by have := hs i; (try dsimp only); split <;> omega
theorem arrT_up (hs : ∀ i, 0 ≤ szI p i) (t : Int) : arrT p t ≤ preS p p.length := sumI_le _ fun i _ => by have := hs i; (try dsimp only); split <;> omega
theorem sumI_split {g : Nat → Int} {m : Nat} : ∀ n, m ≤ n → (∀ i, m ≤ i → i < n → g i = 0) → sumI g n = sumI g m
  | 0, h, _ => by rw [show m = 0 by omega]
  | n + 1, h, e => by
    by_cases c : m = n + 1
    · rw [c]
    · rw [sumI_succ, sumI_split (m := m) n (by omega) (fun i h1 h2 => e i h1 (by omega)), e n (by omega) (by omega)]; omega
theorem asc_at (ha : Asc p) {i j : Nat} (hij : i ≤ j) (hj : j < p.length) : (p.getD i default).t ≤ (p.getD j default).t := by
  rw [List.getD_eq_getElem?_getD, List.getD_eq_getElem?_getD, List.getElem?_eq_getElem (by omega), List.getElem?_eq_getElem hj]
  show (p[i]).t ≤ (p[j]).t
  rcases Nat.lt_or_ge i j with h | h
  · exact (List.pairwise_iff_getElem.1 ha) i j (by omega) hj h
  · have : i = j := by omega
    subst this; exact Int.le_refl _
/-- What has arrived at a tick that is not behind a packet's is at most what is ahead of it. -/
theorem arrT_le (ha : Asc p) (hs : ∀ i, 0 ≤ szI p i) {m : Nat} (hm : m < p.length) {u : Int} (hu : u ≤ (p.getD m default).t) : arrT p u ≤ preS p m := by
  unfold arrT
  rw [sumI_split (m := m) p.length (by omega) (fun i h1 h2 => if_neg (by have := asc_at ha h1 h2; omega))]
  exact sumI_le _ fun i _ => by have := hs i; (try dsimp only); split <;> omega
/-- Behind its tick it counts. -/
theorem arrT_ge (ha : Asc p) (hs : ∀ i, 0 ≤ szI p i) {m : Nat} (hm : m < p.length) {u : Int} (hu : (p.getD m default).t < u) : preS p (m + 1) ≤ arrT p u := by
  refine Int.le_trans (Int.le_of_eq ?_) (sumI_part (g := fun i => if (p.getD i default).t < u then szI p i else 0) (m := m + 1) (fun i => by have := hs i; (try dsimp only); split <;> omega) p.length (by omega))
  exact sumI_congr _ fun i hi => by
    have := asc_at ha (show i ≤ m by omega) hm
    rw [if_pos (by omega)]
/-- A packet that is complete has arrived. -/
theorem done_late (ha : Asc p) (hs : ∀ i, i < p.length → 1 ≤ szI p i) (hs0 : ∀ i, 0 ≤ szI p i) {i : Nat} (hi : i < p.length) {t : Int} (h : preS p (i + 1) ≤ arrT p t) : (p.getD i default).t < t := by
  refine Int.lt_of_not_ge fun hge => ?_
  have h1 := arrT_le ha hs0 hi (u := t) hge
  have h2 := hs i hi
  have h3 : preS p (i + 1) = preS p i + szI p i := rfl
  omega
end
end Go.Proofs.Ytkienpbmoilheaa
