/- The mathematics of Greedy: what it sends, and that no other trace of packets of its size has more. Nothing here speaks of the program. By the verifier's side. -/
import Derived.Test.YtknimlpdpgpliaaFCfM
namespace Go.Proofs.Ytknimlpdpgpliaa
set_option linter.unusedSimpArgs false
set_option linter.unusedVariables false

/-- In one tick: as many as may go, at most k. -/
def gIn (E : Nat → Int) (fl t c : Int) : Nat → List Pk → List Pk
  | 0, acc => acc
  | k + 1, acc => if (exB E (t + 1) 0 ((⟨fl, t, c⟩ : Pk) :: acc)).isNone = true then gIn E fl t c k (⟨fl, t, c⟩ :: acc) else acc
/-- After so many ticks, the last one first. -/
def gUp (E : Nat → Int) (fl c : Int) : Nat → List Pk
  | 0 => []
  | n + 1 => gIn E fl n c (60 - (gUp E fl c n).length) (gUp E fl c n)

theorem gIn_ind {E : Nat → Int} {fl t c : Int} (R : List Pk → Prop) (hR : ∀ acc, R acc → (exB E (t + 1) 0 ((⟨fl, t, c⟩ : Pk) :: acc)).isNone = true → R (⟨fl, t, c⟩ :: acc)) : ∀ (k : Nat) (acc : List Pk), R acc → R (gIn E fl t c k acc)
  | 0, acc, h => h
  | k + 1, acc, h => by
    unfold gIn
    split
    · rename_i d
      exact gIn_ind R hR k _ (hR acc h d)
    · exact h
theorem gIn_len {E : Nat → Int} {fl t c : Int} : ∀ (k : Nat) (acc : List Pk), (gIn E fl t c k acc).length ≤ acc.length + k
  | 0, acc => Nat.le_refl _
  | k + 1, acc => by
    unfold gIn
    split
    · have := gIn_len (E := E) (fl := fl) (t := t) (c := c) k (⟨fl, t, c⟩ :: acc)
      simp only [List.length_cons] at this; omega
    · omega
theorem gUp_len (E : Nat → Int) (fl c : Int) : ∀ n, (gUp E fl c n).length ≤ 60
  | 0 => by show 0 ≤ 60; omega
  | n + 1 => by
    have h1 := gUp_len E fl c n
    have h2 := gIn_len (E := E) (fl := fl) (t := n) (c := c) (60 - (gUp E fl c n).length) (gUp E fl c n)
    show (gIn E fl n c (60 - (gUp E fl c n).length) (gUp E fl c n)).length ≤ 60
    omega
/-- What is sent: packets of the flow and the size, none later than its tick. -/
structure Sent (fl c : Int) (n : Nat) (l : List Pk) : Prop where
  mem : ∀ q ∈ l, q.f = fl ∧ q.s = c ∧ 0 ≤ q.t ∧ q.t < n
  desc : l.Pairwise fun x y => y.t ≤ x.t
theorem gUp_sent (E : Nat → Int) (fl c : Int) : ∀ n, Sent fl c n (gUp E fl c n)
  | 0 => ⟨fun q h => (by cases h), List.Pairwise.nil⟩
  | n + 1 => by
    have ih := gUp_sent E fl c n
    refine gIn_ind (fun a => Sent fl c (n + 1) a) (fun a ha _ => ⟨fun q hq => ?_, List.pairwise_cons.2 ⟨fun y hy => ?_, ha.desc⟩⟩) _ _ ⟨fun q hq => ?_, ih.desc⟩
    · rcases List.mem_cons.1 hq with e | e
      · subst e; exact ⟨rfl, rfl, by show (0 : Int) ≤ n; omega, by show (n : Int) < ((n + 1 : Nat) : Int); omega⟩
      · exact ha.mem q e
    · have := ha.mem y hy
      show y.t ≤ (n : Int); omega
    · have := ih.mem q hq; exact ⟨this.1, this.2.1, this.2.2.1, by omega⟩
/-- How many come before the tick t. -/
def cnt (t : Int) (l : List Pk) : Nat := (l.filter fun q => decide (q.t < t)).length
/-- In an ascending list those before a tick come first. -/
theorem cnt_asc {l : List Pk} (h : Asc l) {t : Int} {j : Nat} {q : Pk} (hq : l[j]? = some q) : q.t < t ↔ j < cnt t l := by
  induction l generalizing j with
  | nil => cases hq
  | cons x r ih =>
    have hc := asc_cons.1 h
    unfold cnt at ih ⊢
    rw [List.filter_cons]
    by_cases d : x.t < t
    · rw [if_pos (by simpa using d)]
      cases j with
      | zero => cases hq; simp only [List.length_cons]; exact ⟨fun _ => by omega, fun _ => d⟩
      | succ j =>
        rw [List.getElem?_cons_succ] at hq
        have := ih hc.2 hq
        simp only [List.length_cons]; omega
    · rw [if_neg (by simpa using d)]
      have hall : r.filter (fun q => decide (q.t < t)) = [] := List.filter_eq_nil_iff.2 (fun y hy => by have := hc.1 y hy; simp; omega)
      rw [hall]
      have hx : x.t ≤ q.t := by
        cases j with
        | zero => cases hq; exact Int.le_refl _
        | succ j => exact hc.1 q (List.mem_of_getElem? hq)
      simp only [List.length_nil]; omega
end Go.Proofs.Ytknimlpdpgpliaa

namespace Go.Proofs.Ytknimlpdpgpliaa
set_option linter.unusedSimpArgs false
set_option linter.unusedVariables false

/-- The first of k ticks from τ on at which a packet may come. -/
def tryT (E : Nat → Int) (f s : Int) (acc : List Pk) : Nat → Int → Option Int
  | 0, τ => none
  | k + 1, τ => if (exB E (τ + 1) 0 ((⟨f, τ, s⟩ : Pk) :: acc)).isNone = true then some τ else tryT E f s acc k (τ + 1)
/-- The tick of the last one. -/
def headT : List Pk → Int
  | [] => 0
  | q :: _ => q.t
/-- Where a packet goes. -/
def shT (E : Nat → Int) (acc : List Pk) (q : Pk) : Option Int := tryT E q.f q.s acc (2001 - (max q.t (headT acc))).toNat (max q.t (headT acc))
/-- The trace with the packets of the flow at their ticks; what has come is acc, the last one first. -/
def shL (E : Nat → Int) (fl : Int) : List Pk → List Pk → Option (List Pk)
  | acc, [] => some []
  | acc, q :: r => if fl = -1 ∨ q.f = fl then (match shT E acc q with
      | none => none
      | some τ => (shL E fl (⟨q.f, τ, q.s⟩ :: acc) r).map (⟨q.f, τ, q.s⟩ :: ·))
    else (shL E fl acc r).map (q :: ·)
theorem shL_cons (E : Nat → Int) (fl : Int) (acc : List Pk) (q : Pk) (r : List Pk) : shL E fl acc (q :: r) = if fl = -1 ∨ q.f = fl then (match shT E acc q with
      | none => none
      | some τ => (shL E fl (⟨q.f, τ, q.s⟩ :: acc) r).map (⟨q.f, τ, q.s⟩ :: ·))
    else (shL E fl acc r).map (q :: ·) := rfl
theorem tryT_some {E : Nat → Int} {f s : Int} {acc : List Pk} : ∀ {k : Nat} {τ x : Int}, tryT E f s acc k τ = some x → τ ≤ x ∧ x < τ + k ∧ (exB E (x + 1) 0 ((⟨f, x, s⟩ : Pk) :: acc)).isNone = true ∧ ∀ y, τ ≤ y → y < x → (exB E (y + 1) 0 ((⟨f, y, s⟩ : Pk) :: acc)).isNone = false
  | 0, τ, x, h => by cases h
  | k + 1, τ, x, h => by
    unfold tryT at h
    by_cases c : (exB E (τ + 1) 0 ((⟨f, τ, s⟩ : Pk) :: acc)).isNone = true
    · rw [if_pos c] at h
      cases h
      exact ⟨Int.le_refl _, by omega, c, fun y h1 h2 => by omega⟩
    · rw [if_neg c] at h
      obtain ⟨h1, h2, h3, h4⟩ := tryT_some h
      refine ⟨by omega, by omega, h3, fun y hy1 hy2 => ?_⟩
      rcases Int.lt_or_le τ y with d | d
      · exact h4 y (by omega) hy2
      · obtain rfl : y = τ := by omega
        exact Bool.eq_false_iff.2 c
theorem tryT_now {E : Nat → Int} {f s : Int} {acc : List Pk} {k : Nat} {τ : Int} (c : (exB E (τ + 1) 0 ((⟨f, τ, s⟩ : Pk) :: acc)).isNone = true) (hk : 1 ≤ k) : tryT E f s acc k τ = some τ := by
  obtain ⟨k, rfl⟩ : ∃ j, k = j + 1 := ⟨k - 1, by omega⟩
  unfold tryT; rw [if_pos c]
theorem shT_some {E : Nat → Int} {acc : List Pk} {q : Pk} {x : Int} (h : shT E acc q = some x) : q.t ≤ x ∧ headT acc ≤ x ∧ x ≤ 2000 ∧ (exB E (x + 1) 0 ((⟨q.f, x, q.s⟩ : Pk) :: acc)).isNone = true ∧ ∀ y, q.t ≤ y → headT acc ≤ y → y < x → (exB E (y + 1) 0 ((⟨q.f, y, q.s⟩ : Pk) :: acc)).isNone = false := by
  obtain ⟨h1, h2, h3, h4⟩ := tryT_some h
  exact ⟨by omega, by omega, by omega, h3, fun y hy1 hy2 hy3 => h4 y (by omega) hy3⟩
/-- What has been shaped: ascending, within its ranges, and it keeps what is allowed. -/
structure ShA (E : Nat → Int) (acc : List Pk) : Prop where
  asc : Asc acc.reverse
  ok : ∀ q ∈ acc, okP q = true
  fit : fitR E acc = true
theorem headT_max {acc : List Pk} (h : Asc acc.reverse) : ∀ q ∈ acc, q.t ≤ headT acc := by
  cases acc with
  | nil => intro q hq; cases hq
  | cons x r =>
    intro q hq
    rcases List.mem_cons.1 hq with e | e
    · rw [e]; exact Int.le_refl _
    · rw [List.reverse_cons] at h
      exact (asc_append.1 h).2.2 q (List.mem_reverse.2 e) x (by simp)
theorem headT_bd {acc : List Pk} (h : ∀ q ∈ acc, okP q = true) : 0 ≤ headT acc ∧ headT acc ≤ 2000 := by
  cases acc with
  | nil => exact ⟨Int.le_refl _, by show (0 : Int) ≤ 2000; omega⟩
  | cons x r => have := (okP_iff x).1 (h x (by simp)); show 0 ≤ x.t ∧ x.t ≤ 2000; omega
theorem ShA.push {E : Nat → Int} {acc : List Pk} {q : Pk} {x : Int} (h : ShA E acc) (hq : okP q = true) (hx : shT E acc q = some x) : ShA E (⟨q.f, x, q.s⟩ :: acc) := by
  obtain ⟨h1, h2, h3, h4, _⟩ := shT_some hx
  have hqo := (okP_iff q).1 hq
  refine ⟨?_, fun y hy => ?_, by unfold fitR; rw [h.fit]; exact by rw [show (exB E ((⟨q.f, x, q.s⟩ : Pk).t + 1) 0 ((⟨q.f, x, q.s⟩ : Pk) :: acc)).isNone = true from h4]; rfl⟩
  · rw [List.reverse_cons]
    refine asc_append.2 ⟨h.asc, asc_one _, fun a ha b hb => ?_⟩
    rw [List.mem_singleton.1 hb]
    have := headT_max h.asc a (List.mem_reverse.1 ha)
    show a.t ≤ x; omega
  · rcases List.mem_cons.1 hy with e | e
    · rw [e]; exact (okP_iff _).2 ⟨hqo.1, hqo.2.1, by show 0 ≤ x; omega, h3, hqo.2.2.2.2.1, hqo.2.2.2.2.2⟩
    · exact h.ok y e
end Go.Proofs.Ytknimlpdpgpliaa
