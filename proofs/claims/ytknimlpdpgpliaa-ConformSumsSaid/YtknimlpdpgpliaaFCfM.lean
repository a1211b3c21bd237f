/- The mathematics of conformance: what a flow may have, windows of packets, what Police lets pass. Nothing here speaks of the program. By the verifier's side. -/
import Derived.Test.YtknimlpdpgpliaaFTrMTrN
namespace Go.Proofs.Ytknimlpdpgpliaa
set_option linter.unusedSimpArgs false
set_option linter.unusedVariables false

/-- From the last packet backwards: the first tick from which on, up to e, more arrives than is allowed. -/
def exB (E : Nat → Int) (e s : Int) : List Pk → Option Int
  | [] => none
  | q :: r => if E (e - q.t).toNat < s + q.s then some q.t else exB E e (s + q.s) r
/-- The same of a list in its order. -/
def exc14 (E : Nat → Int) (l : List Pk) : Option Int :=
  match l.reverse with
  | [] => none
  | q :: r => exB E (q.t + 1) 0 (q :: r)
/-- A list, the last one first, all of whose ends keep what is allowed. -/
def fitR (E : Nat → Int) : List Pk → Bool
  | [] => true
  | q :: r => (exB E (q.t + 1) 0 (q :: r)).isNone && fitR E r
theorem exc14_snoc (E : Nat → Int) (l : List Pk) (q : Pk) : exc14 E (l ++ [q]) = exB E (q.t + 1) 0 (q :: l.reverse) := by
  unfold exc14; rw [List.reverse_append]; rfl
theorem fitR_snoc (E : Nat → Int) (l : List Pk) (q : Pk) : fitR E (l ++ [q]).reverse = ((exc14 E (l ++ [q])).isNone && fitR E l.reverse) := by
  rw [exc14_snoc, List.reverse_append]; rfl

/-- What exB says, packet by packet. -/
theorem exB_none (E : Nat → Int) (e : Int) : ∀ (l : List Pk) (s : Int), (exB E e s l).isNone = true ↔ ∀ i q, l[i]? = some q → s + sumG Pk.s (l.take (i + 1)) ≤ E (e - q.t).toNat
  | [], s => by simp [exB]
  | x :: r, s => by
    unfold exB
    by_cases c : E (e - x.t).toNat < s + x.s
    · rw [if_pos c]
      constructor
      · intro h; cases h
      · intro h
        have := h 0 x rfl
        simp [sumG] at this; omega
    · rw [if_neg c, exB_none E e r (s + x.s)]
      constructor
      · intro h i q hq
        cases i with
        | zero => cases hq; simp [sumG]; omega
        | succ i =>
          have := h i q hq
          rw [List.take_succ_cons]
          show s + (x.s + sumG Pk.s (r.take (i + 1))) ≤ _
          omega
      · intro h i q hq
        have := h (i + 1) q hq
        rw [List.take_succ_cons] at this
        have h2 : s + (x.s + sumG Pk.s (r.take (i + 1))) ≤ E (e - q.t).toNat := this
        omega

/-- The flow of what is left. -/
theorem sel_cons (fl : Int) (q : Pk) (l : List Pk) : sel fl (q :: l) = if ofFlow fl q = true then q :: sel fl l else sel fl l := by
  unfold sel; rw [List.filter_cons]
theorem ofFlow_nn {fl : Int} (h : -1 ≤ fl) (q : Pk) : ofFlow fl q = decide (fl = -1 ∨ q.f = fl) := by
  unfold ofFlow
  rw [Bool.eq_iff_iff]
  simp only [Bool.and_eq_true, Bool.or_eq_true, decide_eq_true_eq]
  omega
/-! ## What Violation finds -/

/-- The ends of a list behind what has come all keep what is allowed. -/
def fits (E : Nat → Int) : List Pk → List Pk → Bool
  | acc, [] => true
  | acc, q :: r => (exB E (q.t + 1) 0 (q :: acc)).isNone && fits E (q :: acc) r
theorem fits_cons (E : Nat → Int) (acc : List Pk) (q : Pk) (r : List Pk) : fits E acc (q :: r) = ((exB E (q.t + 1) 0 (q :: acc)).isNone && fits E (q :: acc) r) := rfl
theorem fitR_fits (E : Nat → Int) : ∀ (l acc : List Pk), fitR E (l.reverse ++ acc) = (fits E acc l && fitR E acc)
  | [], acc => by simp [fits]
  | q :: r, acc => by
    rw [List.reverse_cons, List.append_assoc, fits_cons]
    have h := fitR_fits E r (q :: acc)
    rw [show r.reverse ++ ([q] ++ acc) = r.reverse ++ q :: acc from rfl, h]
    show (fits E (q :: acc) r && ((exB E (q.t + 1) 0 (q :: acc)).isNone && fitR E acc)) = _
    cases fits E (q :: acc) r <;> cases (exB E (q.t + 1) 0 (q :: acc)).isNone <;> cases fitR E acc <;> rfl
theorem fitR_of_fits (E : Nat → Int) (l : List Pk) : fitR E l.reverse = fits E [] l := by
  have h := fitR_fits E l []
  rw [List.append_nil] at h
  rw [h]; simp [fitR]
/-- Whether the next packet comes in the same tick. -/
def nextAt (t : Int) : List Pk → Bool
  | [] => false
  | q :: _ => decide (q.t = t)
/-- The first end, tick by tick, that does not keep what is allowed: where it begins, where it ends. -/
def vio (E : Nat → Int) : List Pk → List Pk → Option (Int × Int)
  | acc, [] => none
  | acc, q :: r => if nextAt q.t r = true then vio E (q :: acc) r else match exB E (q.t + 1) 0 (q :: acc) with
    | some s => some (s, q.t + 1)
    | none => vio E (q :: acc) r
theorem vio_cons (E : Nat → Int) (acc : List Pk) (q : Pk) (r : List Pk) : vio E acc (q :: r) = if nextAt q.t r = true then vio E (q :: acc) r else match exB E (q.t + 1) 0 (q :: acc) with
    | some s => some (s, q.t + 1)
    | none => vio E (q :: acc) r := rfl
theorem exB_more {E : Nat → Int} {e : Int} {q : Pk} {l : List Pk} (hq : 0 ≤ q.s) (h : (exB E e 0 (q :: l)).isNone = true) : (exB E e 0 l).isNone = true := by
  rw [exB_none] at h ⊢
  intro i x hx
  have := h (i + 1) x hx
  rw [List.take_succ_cons] at this
  have h2 : 0 + (q.s + sumG Pk.s (l.take (i + 1))) ≤ E (e - x.t).toNat := this
  omega
theorem vio_none (E : Nat → Int) : ∀ (l acc : List Pk), (∀ q ∈ l, 0 ≤ q.s) → (vio E acc l).isNone = fits E acc l
  | [], acc, _ => rfl
  | q :: r, acc, h => by
    have ih := vio_none E r (q :: acc) (fun x hx => h x (by simp [hx]))
    rw [vio_cons, fits_cons]
    by_cases c : nextAt q.t r = true
    · rw [if_pos c, ih]
      cases r with
      | nil => cases c
      | cons q' r =>
        have ht : q'.t = q.t := by unfold nextAt at c; simpa using c
        cases hf : fits E (q :: acc) (q' :: r) with
        | false => simp
        | true =>
          rw [fits_cons, Bool.and_eq_true, ht] at hf
          rw [exB_more (h q' (by simp)) hf.1]; rfl
    · rw [if_neg c]
      cases he : exB E (q.t + 1) 0 (q :: acc) with
      | none => simpa using ih
      | some s => rfl
/-- Whether a flow keeps what is allowed. -/
def kpB (E : Nat → Int) (fl : Int) (l : List Pk) : Bool := fitR E (sel fl l).reverse
theorem kpB_vio {E : Nat → Int} {fl : Int} {l : List Pk} (h : ∀ q ∈ l, 0 ≤ q.s) : (vio E [] (sel fl l)).isNone = kpB E fl l := by
  rw [vio_none E (sel fl l) [] (fun q hq => h q (List.mem_filter.1 hq).1)]
  exact (fitR_of_fits E _).symm
end Go.Proofs.Ytknimlpdpgpliaa
