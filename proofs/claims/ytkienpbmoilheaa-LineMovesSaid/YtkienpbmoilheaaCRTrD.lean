/- Later of package trace, of whatever arguments. By the verifier's side. -/
import Derived.Test.YtkienpbmoilheaaCTrXTrV
namespace Go.Proofs.Ytkienpbmoilheaa
open Go.RowKit
set_option linter.unusedSimpArgs false
set_option linter.unusedVariables false

/-- Whether the last packet would come too late. -/
def tooB (d : Int) (l : List Pk) : Bool := match l[l.length - 1]? with | some q => decide (2000 < q.t + d) | none => false
theorem tooB_some {d : Int} {l : List Pk} {q : Pk} (h : l[l.length - 1]? = some q) : tooB d l = decide (2000 < q.t + d) := by unfold tooB; rw [h]
theorem tooB_yes {d : Int} {l : List Pk} (h : tooB d l = true) : ∃ q, l[l.length - 1]? = some q ∧ 2000 < q.t + d ∧ 0 < l.length := by
  cases hq : l[l.length - 1]? with
  | none => unfold tooB at h; rw [hq] at h; cases h
  | some q => rw [tooB_some hq] at h; exact ⟨q, rfl, of_decide_eq_true h, Nat.lt_of_le_of_lt (Nat.zero_le _) (List.getElem?_eq_some_iff.1 hq).1⟩
theorem tooB_no {d : Int} {l : List Pk} (ha : Asc l) (h : tooB d l = false) : ∀ q ∈ l, q.t + d ≤ 2000 := fun q hq => by
  obtain ⟨i, hi, rfl⟩ := List.mem_iff_getElem.1 hq
  have hl : l[l.length - 1]? = some (l[l.length - 1]'(by omega)) := List.getElem?_eq_getElem _
  rw [tooB_some hl] at h
  have h1 : ¬ 2000 < (l[l.length - 1]'(by omega)).t + d := of_decide_eq_false h
  rcases Nat.lt_or_ge i (l.length - 1) with c | c
  · have := List.pairwise_iff_getElem.1 ha i (l.length - 1) hi (by omega) c
    omega
  · have e : i = l.length - 1 := by omega
    subst e; omega
/-- The error of Later. -/
def lcode (d : Int) (l : List Pk) : Int := if vcode l = 0 then (if d < 0 ∨ 2000 < d ∨ tooB d l = true then 2 else 0) else vcode l
/-- What Later gives. -/
def laterL (d : Int) (l : List Pk) : List Pk := if lcode d l = 0 then l.map (lateP d) else []
/-- The four ways of Later. -/
theorem later_ways (d : Int) (l : List Pk) : (∃ x, vcode l = x ∧ ¬ x = 0 ∧ lcode d l = x ∧ laterL d l = []) ∨ (vcode l = 0 ∧ (d < 0 ∨ 2000 < d) ∧ lcode d l = 2 ∧ laterL d l = []) ∨
    (vcode l = 0 ∧ 0 ≤ d ∧ d ≤ 2000 ∧ (∃ q, l[l.length - 1]? = some q ∧ 2000 < q.t + d ∧ 0 < l.length) ∧ lcode d l = 2 ∧ laterL d l = []) ∨ (vcode l = 0 ∧ 0 ≤ d ∧ d ≤ 2000 ∧ (∀ q ∈ l, q.t + d ≤ 2000) ∧ lcode d l = 0 ∧ laterL d l = l.map (lateP d)) := by
  by_cases hv : vcode l = 0
  · by_cases hd : d < 0 ∨ 2000 < d
    · have e : lcode d l = 2 := by unfold lcode; rw [if_pos hv, if_pos (by rcases hd with c | c; exact .inl c; exact .inr (.inl c))]
      exact .inr (.inl ⟨hv, hd, e, by unfold laterL; rw [e]; rfl⟩)
    · cases ht : tooB d l
      · have e : lcode d l = 0 := by unfold lcode; rw [if_pos hv, if_neg (by rw [ht]; rintro (c | c | c); exact hd (.inl c); exact hd (.inr c); cases c)]
        exact .inr (.inr (.inr ⟨hv, by omega, by omega, tooB_no (vcode_ok hv).2.2 ht, e, by unfold laterL; rw [if_pos e]⟩))
      · have e : lcode d l = 2 := by unfold lcode; rw [if_pos hv, if_pos (.inr (.inr ht))]
        exact .inr (.inr (.inl ⟨hv, by omega, by omega, tooB_yes ht, e, by unfold laterL; rw [e]; rfl⟩))
  · exact .inl ⟨_, rfl, hv, by unfold lcode; rw [if_neg hv], by unfold laterL; rw [if_neg (by unfold lcode; rw [if_neg hv]; exact hv)]⟩

end Go.Proofs.Ytkienpbmoilheaa
