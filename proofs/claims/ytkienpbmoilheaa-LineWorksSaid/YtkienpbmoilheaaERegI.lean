/- A law: a region that draws its order, under an invariant that speaks of the operations that have come up. By the verifier's side. -/
import Derived.Deep.RegionHeld3
namespace Go
section
variable {P : Program} {ops : Array Oper} {Q : Exit → Act → World → Prop} {md : Region.Mode}

theorem getDf_ne {l : Array Bool} {i j : Nat} (h : i ≠ j) : (l.setIfInBounds i true).getD j false = l.getD j false := by
  rw [Array.getD_eq_getD_getElem?, Array.getD_eq_getD_getElem?, Array.getElem?_setIfInBounds_ne h]
/-- How many operations have not come up. -/
def leftB (l : Array Bool) : Nat := l.toList.count false
theorem leftB_set {l : Array Bool} {i : Nat} (h : l.getD i true = false) : leftB l = leftB (l.setIfInBounds i true) + 1 := by
  have hi : i < l.toList.length := by
    by_cases hi : i < l.size
    · simpa using hi
    · rw [Array.getD_eq_getD_getElem?, Array.getElem?_eq_none (by omega)] at h; cases h
  have hv : l.toList[i] = false := by
    rw [Array.getD_eq_getD_getElem?, Array.getElem?_eq_getElem (by simpa using hi)] at h
    simpa using h
  unfold leftB
  have h9 : 0 < l.toList.count false := List.count_pos_iff.2 (by rw [← hv]; exact List.getElem_mem hi)
  rw [Array.toList_setIfInBounds, List.count_set hi, hv]
  generalize l.toList.count false = c at h9
  simp
  omega
theorem leftB_zero {l : Array Bool} (h : leftB l = 0) (i : Nat) : l.getD i true = true := by
  rw [Array.getD_eq_getD_getElem?]
  by_cases hi : i < l.size
  · rw [Array.getElem?_eq_getElem hi]
    show l[i] = true
    unfold leftB at h
    rw [List.count_eq_zero] at h
    cases hb : l[i] with
    | true => rfl
    | false => exact absurd (by rw [← hb]; exact Array.mem_toList_iff.2 (Array.getElem_mem hi)) h
  · rw [Array.getElem?_eq_none (by omega)]; rfl
theorem leftB_replicate : ∀ n : Nat, leftB (Array.replicate n false) = n := fun n => by unfold leftB; simp
theorem ready_zero {l : Array Bool} (h : leftB l = 0) : Region.ready md ops l = [] := by
  cases hr : Region.ready md ops l with
  | nil => rfl
  | cons x xs =>
    have hx : x ∈ Region.ready md ops l := by rw [hr]; exact List.mem_cons_self
    have h1 := (mem_ready.1 hx).1
    rw [leftB_zero h x] at h1
    cases h1

/-- Each operation waits for earlier ones only. -/
def downB (md : Region.Mode) (ops : Array Oper) : Bool :=
  (List.range ops.size).all fun j => match ops[j]? with
    | some o => o.after.all fun e => !Region.binds md e || decide (e.on < j)
    | none => true
theorem downB_spec (h : downB md ops = true) {j : Nat} {o : Oper} (ho : ops[j]? = some o) : ∀ e ∈ o.after, Region.binds md e = true → e.on < j := fun e he hb => by
  unfold downB at h
  rw [List.all_eq_true] at h
  have h1 := h j (List.mem_range.2 (Array.getElem?_eq_some_iff.1 ho).1)
  simp only [ho] at h1
  have h2 := Array.all_eq_true_iff_forall_mem.1 h1 e he
  simpa [hb] using h2
theorem all_listed (hB : downB md ops = true) {listed : Array Bool} (hs : listed.size = ops.size) (h : Region.ready md ops listed = []) : ∀ j, j < ops.size → listed.getD j false = true := by
  intro j
  induction j using Nat.strongRecOn with
  | ind j ih =>
    intro hj
    cases hd : listed.getD j false with
    | true => rfl
    | false =>
      have h1 : listed.getD j true = false := by
        rw [Array.getD_eq_getD_getElem?, Array.getElem?_eq_getElem (by omega)] at hd ⊢
        exact hd
      have hm : j ∈ Region.ready md ops listed := mem_ready.2 ⟨h1, ops[j], Array.getElem?_eq_getElem hj, fun e he hb => by
        have hl := downB_spec hB (Array.getElem?_eq_getElem hj) e he hb
        exact ih e.on hl (by omega)⟩
      rw [h] at hm
      cases hm
/-- Values laid into the frame, from number k on. -/
def putL (a : Act) : Nat → List Value → Act
  | _, [] => a
  | k, v :: vs => putL (a.put (some k) v) (k + 1) vs
/-- The frame's values from number k on. -/
def slots (a : Act) : Nat → Nat → List Value
  | _, 0 => []
  | k, m + 1 => a.tmps.getD k undef :: slots a (k + 1) m
theorem putL_slots (a : Act) : ∀ m k, putL a k (slots a k m) = a
  | 0, _ => rfl
  | m + 1, k => by
    have h : a.put (some k) (a.tmps.getD k undef) = a := by
      obtain ⟨tmps, ds⟩ := a
      show ({ tmps := tmps.setIfInBounds k (tmps.getD k undef), defers := ds } : Act) = ⟨tmps, ds⟩
      congr 1
      apply Array.ext (by simp)
      intro j h1 h2
      rw [Array.getElem_setIfInBounds (by simpa using h2)]
      split
      · rename_i e; subst e; rw [Array.getD_eq_getD_getElem?, Array.getElem?_eq_getElem h2]; rfl
      · rfl
    show putL (a.put (some k) (a.tmps.getD k undef)) (k + 1) (slots a (k + 1) m) = a
    rw [h]; exact putL_slots a m (k + 1)
section
variable {a : Act} {k : Nat} {I : List Value → Array Bool → World → Prop}
end
end
end Go
