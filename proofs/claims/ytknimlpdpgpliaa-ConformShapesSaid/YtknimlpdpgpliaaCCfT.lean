/- The mathematics of Shape: the least tick at which a packet may come, and what the shaped trace keeps to. Nothing here speaks of the program. By the verifier's side. -/
import Derived.Test.YtknimlpdpgpliaaCCfM
namespace Go.Proofs.Ytknimlpdpgpliaa
set_option linter.unusedSimpArgs false
set_option linter.unusedVariables false

/-- The first of k ticks from τ on at which a packet may come. -/
def tryT (E : Nat → Int) (f s : Int) (acc : List Pk) : Nat → Int → Option Int
  | 0, τ => none
  | k + 1, τ => if (exB E (τ + 1) 0 ((⟨f, τ, s⟩ : Pk) :: acc)).isNone = true then some τ else tryT E f s acc k (τ + 1)
/-- The tick of the last one. -/
def headT : List Pk → Int
  | [] => 0
  | q :: _ => q.t
/-- Where a packet goes. -/
def shT (E : Nat → Int) (acc : List Pk) (q : Pk) : Option Int := tryT E q.f q.s acc (2001 - (max q.t (headT acc))).toNat (max q.t (headT acc))
/-- The trace with the packets of the flow at their ticks; what has come is acc, the last one first. -/
def shL (E : Nat → Int) (fl : Int) : List Pk → List Pk → Option (List Pk)
  | acc, [] => some []
  | acc, q :: r => if fl = -1 ∨ q.f = fl then (match shT E acc q with
      | none => none
      | some τ => (shL E fl (⟨q.f, τ, q.s⟩ :: acc) r).map (⟨q.f, τ, q.s⟩ :: ·))
    else (shL E fl acc r).map (q :: ·)
theorem shL_cons (E : Nat → Int) (fl : Int) (acc : List Pk) (q : Pk) (r : List Pk) : shL E fl acc (q :: r) = if fl = -1 ∨ q.f = fl then (match shT E acc q with
      | none => none
      | some τ => (shL E fl (⟨q.f, τ, q.s⟩ :: acc) r).map (⟨q.f, τ, q.s⟩ :: ·))
    else (shL E fl acc r).map (q :: ·) := rfl
theorem tryT_some {E : Nat → Int} {f s : Int} {acc : List Pk} : ∀ {k : Nat} {τ x : Int}, tryT E f s acc k τ = some x → τ ≤ x ∧ x < τ + k ∧ (exB E (x + 1) 0 ((⟨f, x, s⟩ : Pk) :: acc)).isNone = true ∧ ∀ y, τ ≤ y → y < x → (exB E (y + 1) 0 ((⟨f, y, s⟩ : Pk) :: acc)).isNone = false
  | 0, τ, x, h => by cases h
  | k + 1, τ, x, h => by
    unfold tryT at h
    by_cases c : (exB E (τ + 1) 0 ((⟨f, τ, s⟩ : Pk) :: acc)).isNone = true
    · rw [if_pos c] at h
      cases h
      exact ⟨Int.le_refl _, by omega, c, fun y h1 h2 => by omega⟩
    · rw [if_neg c] at h
      obtain ⟨h1, h2, h3, h4⟩ := tryT_some h
      refine ⟨by omega, by omega, h3, fun y hy1 hy2 => ?_⟩
      rcases Int.lt_or_le τ y with d | d
      · exact h4 y (by omega) hy2
      · obtain rfl : y = τ := by omega
        exact Bool.eq_false_iff.2 c
theorem tryT_now {E : Nat → Int} {f s : Int} {acc : List Pk} {k : Nat} {τ : Int} (c : (exB E (τ + 1) 0 ((⟨f, τ, s⟩ : Pk) :: acc)).isNone = true) (hk : 1 ≤ k) : tryT E f s acc k τ = some τ := by
  obtain ⟨k, rfl⟩ : ∃ j, k = j + 1 := ⟨k - 1, by omega⟩
  unfold tryT; rw [if_pos c]
theorem shT_some {E : Nat → Int} {acc : List Pk} {q : Pk} {x : Int} (h : shT E acc q = some x) : q.t ≤ x ∧ headT acc ≤ x ∧ x ≤ 2000 ∧ (exB E (x + 1) 0 ((⟨q.f, x, q.s⟩ : Pk) :: acc)).isNone = true ∧ ∀ y, q.t ≤ y → headT acc ≤ y → y < x → (exB E (y + 1) 0 ((⟨q.f, y, q.s⟩ : Pk) :: acc)).isNone = false := by
  obtain ⟨h1, h2, h3, h4⟩ := tryT_some h
  exact ⟨by omega, by omega, by omega, h3, fun y hy1 hy2 hy3 => h4 y (by omega) hy3⟩
/-- What has been shaped: ascending, within its ranges, and it keeps what is allowed. -/
structure ShA (E : Nat → Int) (acc : List Pk) : Prop where
  asc : Asc acc.reverse
  ok : ∀ q ∈ acc, okP q = true
  fit : fitR E acc = true
theorem headT_max {acc : List Pk} (h : Asc acc.reverse) : ∀ q ∈ acc, q.t ≤ headT acc := by
  cases acc with
  | nil => intro q hq; cases hq
  | cons x r =>
    intro q hq
    rcases List.mem_cons.1 hq with e | e
    · rw [e]; exact Int.le_refl _
    · rw [List.reverse_cons] at h
      exact (asc_append.1 h).2.2 q (List.mem_reverse.2 e) x (by simp)
theorem headT_bd {acc : List Pk} (h : ∀ q ∈ acc, okP q = true) : 0 ≤ headT acc ∧ headT acc ≤ 2000 := by
  cases acc with
  | nil => exact ⟨Int.le_refl _, by show (0 : Int) ≤ 2000; omega⟩
  | cons x r => have := (okP_iff x).1 (h x (by simp)); show 0 ≤ x.t ∧ x.t ≤ 2000; omega
theorem ShA.push {E : Nat → Int} {acc : List Pk} {q : Pk} {x : Int} (h : ShA E acc) (hq : okP q = true) (hx : shT E acc q = some x) : ShA E (⟨q.f, x, q.s⟩ :: acc) := by
  obtain ⟨h1, h2, h3, h4, _⟩ := shT_some hx
  have hqo := (okP_iff q).1 hq
  refine ⟨?_, fun y hy => ?_, by unfold fitR; rw [h.fit]; exact by rw [show (exB E ((⟨q.f, x, q.s⟩ : Pk).t + 1) 0 ((⟨q.f, x, q.s⟩ : Pk) :: acc)).isNone = true from h4]; rfl⟩
  · rw [List.reverse_cons]
    refine asc_append.2 ⟨h.asc, asc_one _, fun a ha b hb => ?_⟩
    rw [List.mem_singleton.1 hb]
    have := headT_max h.asc a (List.mem_reverse.1 ha)
    show a.t ≤ x; omega
  · rcases List.mem_cons.1 hy with e | e
    · rw [e]; exact (okP_iff _).2 ⟨hqo.1, hqo.2.1, by show 0 ≤ x; omega, h3, hqo.2.2.2.2.1, hqo.2.2.2.2.2⟩
    · exact h.ok y e
end Go.Proofs.Ytknimlpdpgpliaa
