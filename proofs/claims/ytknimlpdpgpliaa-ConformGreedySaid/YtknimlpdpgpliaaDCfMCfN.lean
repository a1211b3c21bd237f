/- The mathematics of conformance: what a flow may have, windows of packets, what Police lets pass. Nothing here speaks of the program. By the verifier's side. -/
import Derived.Test.YtknimlpdpgpliaaDTrMTrN
namespace Go.Proofs.Ytknimlpdpgpliaa
set_option linter.unusedSimpArgs false
set_option linter.unusedVariables false

/-- From the last packet backwards: the first tick from which on, up to e, more arrives than is allowed. -/
def exB (E : Nat → Int) (e s : Int) : List Pk → Option Int
  | [] => none
  | q :: r => if E (e - q.t).toNat < s + q.s then some q.t else exB E e (s + q.s) r
/-- The same of a list in its order. -/
def exc14 (E : Nat → Int) (l : List Pk) : Option Int :=
  match l.reverse with
  | [] => none
  | q :: r => exB E (q.t + 1) 0 (q :: r)
/-- A list, the last one first, all of whose ends keep what is allowed. -/
def fitR (E : Nat → Int) : List Pk → Bool
  | [] => true
  | q :: r => (exB E (q.t + 1) 0 (q :: r)).isNone && fitR E r
theorem exc14_snoc (E : Nat → Int) (l : List Pk) (q : Pk) : exc14 E (l ++ [q]) = exB E (q.t + 1) 0 (q :: l.reverse) := by
  unfold exc14; rw [List.reverse_append]; rfl
/-- What exB says, packet by packet. -/
theorem exB_none (E : Nat → Int) (e : Int) : ∀ (l : List Pk) (s : Int), (exB E e s l).isNone = true ↔ ∀ i q, l[i]? = some q → s + sumG Pk.s (l.take (i + 1)) ≤ E (e - q.t).toNat
  | [], s => by simp [exB]
  | x :: r, s => by
    unfold exB
    by_cases c : E (e - x.t).toNat < s + x.s
    · rw [if_pos c]
      constructor
      · intro h; cases h
      · intro h
        have := h 0 x rfl
        simp [sumG] at this; omega
    · rw [if_neg c, exB_none E e r (s + x.s)]
      constructor
      · intro h i q hq
        cases i with
        | zero => cases hq; simp [sumG]; omega
        | succ i =>
          have := h i q hq
          rw [List.take_succ_cons]
          show s + (x.s + sumG Pk.s (r.take (i + 1))) ≤ _
          omega
      · intro h i q hq
        have := h (i + 1) q hq
        rw [List.take_succ_cons] at this
        have h2 : s + (x.s + sumG Pk.s (r.take (i + 1))) ≤ E (e - q.t).toNat := this
        omega

/-- Whether a packet stays behind what has passed. -/
def okQ (E : Nat → Int) (fl : Int) (acc : List Pk) (q : Pk) : Bool := !(decide (fl = -1 ∨ q.f = fl)) || (exB E (q.t + 1) 0 (q :: acc)).isNone
/-- What is then passed. -/
def accQ (E : Nat → Int) (fl : Int) (acc : List Pk) (q : Pk) : List Pk := if (fl = -1 ∨ q.f = fl) ∧ (exB E (q.t + 1) 0 (q :: acc)).isNone = true then q :: acc else acc
/-- The trace without what does not pass. -/
def polL (E : Nat → Int) (fl : Int) : List Pk → List Pk → List Pk
  | acc, [] => []
  | acc, q :: r => if okQ E fl acc q = true then q :: polL E fl (accQ E fl acc q) r else polL E fl (accQ E fl acc q) r
/-- The indices of what does not pass, the first one being i. -/
def polI (E : Nat → Int) (fl : Int) : Nat → List Pk → List Pk → List Nat
  | i, acc, [] => []
  | i, acc, q :: r => if okQ E fl acc q = true then polI E fl (i + 1) (accQ E fl acc q) r else i :: polI E fl (i + 1) (accQ E fl acc q) r
/-- What has passed in the end. -/
def polA (E : Nat → Int) (fl : Int) : List Pk → List Pk → List Pk
  | acc, [] => acc
  | acc, q :: r => polA E fl (accQ E fl acc q) r

theorem polL_cons (E : Nat → Int) (fl : Int) (acc : List Pk) (q : Pk) (r : List Pk) : polL E fl acc (q :: r) = if okQ E fl acc q = true then q :: polL E fl (accQ E fl acc q) r else polL E fl (accQ E fl acc q) r := rfl
theorem polI_cons (E : Nat → Int) (fl : Int) (i : Nat) (acc : List Pk) (q : Pk) (r : List Pk) : polI E fl i acc (q :: r) = if okQ E fl acc q = true then polI E fl (i + 1) (accQ E fl acc q) r else i :: polI E fl (i + 1) (accQ E fl acc q) r := rfl
theorem polA_append (E : Nat → Int) (fl : Int) : ∀ (a b acc : List Pk), polA E fl acc (a ++ b) = polA E fl (polA E fl acc a) b
  | [], b, acc => rfl
  | x :: a, b, acc => polA_append E fl a b _
theorem polI_append (E : Nat → Int) (fl : Int) : ∀ (a b acc : List Pk) (i : Nat), polI E fl i acc (a ++ b) = polI E fl i acc a ++ polI E fl (i + a.length) (polA E fl acc a) b
  | [], b, acc, i => by simp [polI, polA]
  | x :: a, b, acc, i => by
    show polI E fl i acc (x :: (a ++ b)) = polI E fl i acc (x :: a) ++ polI E fl (i + (a.length + 1)) (polA E fl (accQ E fl acc x) a) b
    rw [polI_cons, polI_cons, show i + (a.length + 1) = i + 1 + a.length by omega]
    split
    · exact polI_append E fl a b _ _
    · rw [polI_append E fl a b _ _]; rfl
theorem polI_len (E : Nat → Int) (fl : Int) : ∀ (l acc : List Pk) (i : Nat), (polL E fl acc l).length + (polI E fl i acc l).length = l.length
  | [], acc, i => rfl
  | x :: a, acc, i => by
    have h := polI_len E fl a (accQ E fl acc x) (i + 1)
    rw [polL_cons, polI_cons]
    split
    · simp only [List.length_cons]; omega
    · simp only [List.length_cons]; omega
theorem polI_range (E : Nat → Int) (fl : Int) : ∀ (l acc : List Pk) (i : Nat), ∀ k ∈ polI E fl i acc l, i ≤ k ∧ k < i + l.length
  | [], acc, i, k, h => by cases h
  | x :: a, acc, i, k, h => by
    rw [polI_cons] at h
    simp only [List.length_cons]
    split at h
    · have := polI_range E fl a _ (i + 1) k h; omega
    · rcases List.mem_cons.1 h with e | h
      · omega
      · have := polI_range E fl a _ (i + 1) k h; omega
/-- What passes keeps what is allowed. -/
theorem accQ_fit {E : Nat → Int} {fl : Int} {acc : List Pk} {q : Pk} (h : fitR E acc = true) : fitR E (accQ E fl acc q) = true := by
  unfold accQ
  split
  · rename_i c
    unfold fitR
    rw [c.2, h]; rfl
  · exact h
theorem polA_fit {E : Nat → Int} {fl : Int} : ∀ (l acc : List Pk), fitR E acc = true → fitR E (polA E fl acc l) = true
  | [], acc, h => h
  | x :: a, acc, h => polA_fit a _ (accQ_fit h)
/-- The flow of what is left. -/
theorem sel_cons (fl : Int) (q : Pk) (l : List Pk) : sel fl (q :: l) = if ofFlow fl q = true then q :: sel fl l else sel fl l := by
  unfold sel; rw [List.filter_cons]
theorem ofFlow_nn {fl : Int} (h : -1 ≤ fl) (q : Pk) : ofFlow fl q = decide (fl = -1 ∨ q.f = fl) := by
  unfold ofFlow
  rw [Bool.eq_iff_iff]
  simp only [Bool.and_eq_true, Bool.or_eq_true, decide_eq_true_eq]
  omega
theorem sel_polL {E : Nat → Int} {fl : Int} (hf : -1 ≤ fl) : ∀ (l acc : List Pk), (polA E fl acc l).reverse = acc.reverse ++ sel fl (polL E fl acc l)
  | [], acc => by simp [polA, polL, sel]
  | x :: a, acc => by
    have h := sel_polL (E := E) hf a (accQ E fl acc x)
    show (polA E fl (accQ E fl acc x) a).reverse = _
    rw [h]
    rw [polL_cons]
    by_cases c : fl = -1 ∨ x.f = fl
    · by_cases d : (exB E (x.t + 1) 0 (x :: acc)).isNone = true
      · have e1 : okQ E fl acc x = true := by unfold okQ; rw [d]; simp
        have e2 : accQ E fl acc x = x :: acc := by unfold accQ; rw [if_pos ⟨c, d⟩]
        rw [if_pos e1, sel_cons, ofFlow_nn hf, if_pos (by simpa using c), e2]
        simp
      · have e1 : okQ E fl acc x = false := by unfold okQ; rw [Bool.eq_false_iff.2 d]; simp; omega
        have e2 : accQ E fl acc x = acc := by unfold accQ; rw [if_neg (fun h => d h.2)]
        rw [if_neg (by rw [e1]; decide), e2]
    · have e1 : okQ E fl acc x = true := by unfold okQ; simp [c]
      have e2 : accQ E fl acc x = acc := by unfold accQ; rw [if_neg (fun h => c h.1)]
      rw [if_pos e1, sel_cons, ofFlow_nn hf, if_neg (by simpa using c), e2]
theorem polL_mem {E : Nat → Int} {fl : Int} : ∀ (l acc : List Pk), (polL E fl acc l).Sublist l
  | [], acc => List.Sublist.refl _
  | x :: a, acc => by
    rw [polL_cons]
    split
    · exact (polL_mem a _).cons_cons x
    · exact (polL_mem a _).cons x
/-- Other flows stay. -/
theorem polL_other {E : Nat → Int} {fl g : Int} (hg : 0 ≤ g) (hne : g ≠ fl) (hfl : fl ≠ -1) : ∀ (l acc : List Pk), sel g (polL E fl acc l) = sel g l
  | [], acc => rfl
  | x :: a, acc => by
    have h := polL_other (E := E) hg hne hfl a (accQ E fl acc x)
    rw [polL_cons]
    split
    · rw [sel_cons, sel_cons, h]
    · rename_i c
      have hx : x.f = fl := by
        unfold okQ at c
        simp at c
        exact c.1 hfl
      rw [h, sel_cons, ofFlow_nn (by omega), if_neg (by simp; omega)]
/-- What keeps it stays as it is. -/
theorem polL_id {E : Nat → Int} {fl : Int} (hf : -1 ≤ fl) : ∀ (l acc : List Pk), fitR E ((sel fl l).reverse ++ acc) = true → polL E fl acc l = l ∧ ∀ i, polI E fl i acc l = []
  | [], acc, _ => ⟨rfl, fun _ => rfl⟩
  | x :: a, acc, h => by
    have hcut : ∀ (u v : List Pk), fitR E (u ++ v) = true → fitR E v = true := fun u => by
      induction u with
      | nil => intro v h; exact h
      | cons y u ih => intro v h; rw [List.cons_append] at h; unfold fitR at h; rw [Bool.and_eq_true] at h; exact ih v h.2
    rw [sel_cons, ofFlow_nn hf] at h
    by_cases c : fl = -1 ∨ x.f = fl
    · rw [if_pos (by simpa using c), List.reverse_cons, List.append_assoc] at h
      have hx : fitR E (x :: acc) = true := hcut _ _ h
      have d : (exB E (x.t + 1) 0 (x :: acc)).isNone = true := by unfold fitR at hx; rw [Bool.and_eq_true] at hx; exact hx.1
      have e1 : okQ E fl acc x = true := by unfold okQ; rw [d]; simp
      have e2 : accQ E fl acc x = x :: acc := by unfold accQ; rw [if_pos ⟨c, d⟩]
      obtain ⟨k1, k2⟩ := polL_id hf a (x :: acc) h
      rw [polL_cons]
      refine ⟨by rw [if_pos e1, e2, k1], fun i => ?_⟩
      rw [polI_cons]
      rw [if_pos e1, e2, k2]
    · rw [if_neg (by simpa using c)] at h
      have e1 : okQ E fl acc x = true := by unfold okQ; simp [c]
      have e2 : accQ E fl acc x = acc := by unfold accQ; rw [if_neg (fun h => c h.1)]
      obtain ⟨k1, k2⟩ := polL_id hf a acc h
      rw [polL_cons]
      refine ⟨by rw [if_pos e1, e2, k1], fun i => ?_⟩
      rw [polI_cons]
      rw [if_pos e1, e2, k2]
theorem polI_nil {E : Nat → Int} {fl : Int} : ∀ (l acc : List Pk) (i : Nat), polI E fl i acc l = [] → polL E fl acc l = l
  | [], acc, i, _ => rfl
  | x :: a, acc, i, h => by
    rw [polI_cons] at h
    rw [polL_cons]
    split
    · rename_i c
      rw [if_pos c] at h
      rw [polI_nil a _ (i + 1) h]
    · rename_i c
      rw [if_neg c] at h
      cases h
/-- What Police hands back, twice. -/
theorem pol_again {E : Nat → Int} {fl : Int} (hf : -1 ≤ fl) (l : List Pk) : polL E fl [] (polL E fl [] l) = polL E fl [] l ∧ polI E fl 0 [] (polL E fl [] l) = [] := by
  have h := sel_polL (E := E) hf l []
  rw [List.reverse_nil, List.nil_append] at h
  have hfit := polA_fit (E := E) (fl := fl) l [] rfl
  obtain ⟨k1, k2⟩ := polL_id (E := E) hf (polL E fl [] l) [] (by rw [List.append_nil, ← h, List.reverse_reverse]; exact hfit)
  exact ⟨k1, k2 0⟩
theorem pol_fit {E : Nat → Int} {fl : Int} (hf : -1 ≤ fl) (l : List Pk) : fitR E (sel fl (polL E fl [] l)).reverse = true := by
  have h := sel_polL (E := E) hf l []
  rw [List.reverse_nil, List.nil_append] at h
  rw [← h, List.reverse_reverse]
  exact polA_fit (E := E) (fl := fl) l [] rfl
theorem pol_keeps {E : Nat → Int} {fl : Int} (hf : -1 ≤ fl) (l : List Pk) : fitR E (sel fl l).reverse = true ↔ polI E fl 0 [] l = [] := by
  constructor
  · intro h
    exact (polL_id (E := E) hf l [] (by rw [List.append_nil]; exact h)).2 0
  · intro h
    have := pol_fit (E := E) hf l
    rwa [polI_nil l [] 0 h] at this

/-! ## What Violation finds -/

/-- The ends of a list behind what has come all keep what is allowed. -/
def fits (E : Nat → Int) : List Pk → List Pk → Bool
  | acc, [] => true
  | acc, q :: r => (exB E (q.t + 1) 0 (q :: acc)).isNone && fits E (q :: acc) r
theorem fits_cons (E : Nat → Int) (acc : List Pk) (q : Pk) (r : List Pk) : fits E acc (q :: r) = ((exB E (q.t + 1) 0 (q :: acc)).isNone && fits E (q :: acc) r) := rfl
theorem fitR_fits (E : Nat → Int) : ∀ (l acc : List Pk), fitR E (l.reverse ++ acc) = (fits E acc l && fitR E acc)
  | [], acc => by simp [fits]
  | q :: r, acc => by
    rw [List.reverse_cons, List.append_assoc, fits_cons]
    have h := fitR_fits E r (q :: acc)
    rw [show r.reverse ++ ([q] ++ acc) = r.reverse ++ q :: acc from rfl, h]
    show (fits E (q :: acc) r && ((exB E (q.t + 1) 0 (q :: acc)).isNone && fitR E acc)) = _
    cases fits E (q :: acc) r <;> cases (exB E (q.t + 1) 0 (q :: acc)).isNone <;> cases fitR E acc <;> rfl
theorem fitR_of_fits (E : Nat → Int) (l : List Pk) : fitR E l.reverse = fits E [] l := by
  have h := fitR_fits E l []
  rw [List.append_nil] at h
  rw [h]; simp [fitR]
/-- Whether the next packet comes in the same tick. -/
def nextAt (t : Int) : List Pk → Bool
  | [] => false
  | q :: _ => decide (q.t = t)
/-- The first end, tick by tick, that does not keep what is allowed: where it begins, where it ends. -/
def vio (E : Nat → Int) : List Pk → List Pk → Option (Int × Int)
  | acc, [] => none
  | acc, q :: r => if nextAt q.t r = true then vio E (q :: acc) r else match exB E (q.t + 1) 0 (q :: acc) with
    | some s => some (s, q.t + 1)
    | none => vio E (q :: acc) r
theorem vio_cons (E : Nat → Int) (acc : List Pk) (q : Pk) (r : List Pk) : vio E acc (q :: r) = if nextAt q.t r = true then vio E (q :: acc) r else match exB E (q.t + 1) 0 (q :: acc) with
    | some s => some (s, q.t + 1)
    | none => vio E (q :: acc) r := rfl
theorem exB_more {E : Nat → Int} {e : Int} {q : Pk} {l : List Pk} (hq : 0 ≤ q.s) (h : (exB E e 0 (q :: l)).isNone = true) : (exB E e 0 l).isNone = true := by
  rw [exB_none] at h ⊢
  intro i x hx
  have := h (i + 1) x hx
  rw [List.take_succ_cons] at this
  have h2 : 0 + (q.s + sumG Pk.s (l.take (i + 1))) ≤ E (e - x.t).toNat := this
  omega
theorem vio_none (E : Nat → Int) : ∀ (l acc : List Pk), (∀ q ∈ l, 0 ≤ q.s) → (vio E acc l).isNone = fits E acc l
  | [], acc, _ => rfl
  | q :: r, acc, h => by
    have ih := vio_none E r (q :: acc) (fun x hx => h x (by simp [hx]))
    rw [vio_cons, fits_cons]
    by_cases c : nextAt q.t r = true
    · rw [if_pos c, ih]
      cases r with
      | nil => cases c
      | cons q' r =>
        have ht : q'.t = q.t := by unfold nextAt at c; simpa using c
        cases hf : fits E (q :: acc) (q' :: r) with
        | false => simp
        | true =>
          rw [fits_cons, Bool.and_eq_true, ht] at hf
          rw [exB_more (h q' (by simp)) hf.1]; rfl
    · rw [if_neg c]
      cases he : exB E (q.t + 1) 0 (q :: acc) with
      | none => simpa using ih
      | some s => rfl
/-- Whether a flow keeps what is allowed. -/
def kpB (E : Nat → Int) (fl : Int) (l : List Pk) : Bool := fitR E (sel fl l).reverse
theorem kpB_vio {E : Nat → Int} {fl : Int} {l : List Pk} (h : ∀ q ∈ l, 0 ≤ q.s) : (vio E [] (sel fl l)).isNone = kpB E fl l := by
  rw [vio_none E (sel fl l) [] (fun q hq => h q (List.mem_filter.1 hq).1)]
  exact (fitR_of_fits E _).symm
end Go.Proofs.Ytknimlpdpgpliaa

namespace Go.Proofs.Ytknimlpdpgpliaa
set_option linter.unusedSimpArgs false
set_option linter.unusedVariables false
/-- Without the packets at these places, of which the last one goes first. -/
def dl (l : List Pk) : List Nat → List Pk
  | [] => l
  | i :: r => (dl l r).eraseIdx i
theorem asc_bound {L : Nat} : ∀ (r : List Nat) (i : Nat), (i :: r).Pairwise (· < ·) → (∀ k ∈ i :: r, k < L) → i + r.length < L
  | [], i, _, h => by simpa using h i (by simp)
  | j :: r, i, hp, h => by
    have h1 := List.pairwise_cons.1 hp
    have h2 := asc_bound r j h1.2 (fun k hk => h k (by simp [hk]))
    have h3 := h1.1 j (by simp)
    simp only [List.length_cons]; omega
theorem dl_len {l : List Pk} : ∀ (r : List Nat), r.Pairwise (· < ·) → (∀ k ∈ r, k < l.length) → (dl l r).length + r.length = l.length
  | [], _, _ => rfl
  | i :: r, hp, h => by
    have h1 := dl_len (l := l) r (List.pairwise_cons.1 hp).2 (fun k hk => h k (by simp [hk]))
    have h2 := asc_bound r i hp h
    show ((dl l r).eraseIdx i).length + (r.length + 1) = _
    rw [List.length_eraseIdx_of_lt (by omega)]; omega
theorem polI_asc (E : Nat → Int) (fl : Int) : ∀ (l acc : List Pk) (i : Nat), (polI E fl i acc l).Pairwise (· < ·)
  | [], acc, i => List.Pairwise.nil
  | x :: a, acc, i => by
    rw [polI_cons]
    split
    · exact polI_asc E fl a _ _
    · refine List.pairwise_cons.2 ⟨fun k hk => ?_, polI_asc E fl a _ _⟩
      have := polI_range E fl a _ (i + 1) k hk; omega
/-- What Police removes leaves what passes. -/
theorem dl_pol (E : Nat → Int) (fl : Int) : ∀ (r acc pre : List Pk), dl (pre ++ r) (polI E fl pre.length acc r) = pre ++ polL E fl acc r
  | [], acc, pre => rfl
  | x :: r, acc, pre => by
    have h := dl_pol E fl r (accQ E fl acc x) (pre ++ [x])
    rw [List.length_append, List.length_singleton, List.append_assoc, List.append_assoc] at h
    rw [polI_cons, polL_cons]
    split
    · exact h
    · show (dl (pre ++ x :: r) (polI E fl (pre.length + 1) (accQ E fl acc x) r)).eraseIdx pre.length = _
      rw [show pre ++ x :: r = pre ++ ([x] ++ r) from rfl, h, List.eraseIdx_append_of_length_le (Nat.le_refl _), Nat.sub_self]
      rfl
/-- What is handed out from the last one on: places and numbers. -/
def bkI (zs : List Int) : List (Int × Int) := (List.range zs.length).map fun k => (((zs.length - 1 - k : Nat) : Int), zs.getD (zs.length - 1 - k) 0)
theorem bkI_len (zs : List Int) : (bkI zs).length = zs.length := by unfold bkI; simp
theorem bkI_at {zs : List Int} {k : Nat} (h : k < zs.length) : (bkI zs)[k]? = some (((zs.length - 1 - k : Nat) : Int), zs.getD (zs.length - 1 - k) 0) := by
  unfold bkI; rw [List.getElem?_map, List.getElem?_range h]; rfl
theorem bkI_of {zs : List Int} {k : Nat} {x : Int × Int} (h : (bkI zs)[k]? = some x) : k < zs.length ∧ x = (((zs.length - 1 - k : Nat) : Int), zs.getD (zs.length - 1 - k) 0) := by
  have hk := (List.getElem?_eq_some_iff.1 h).1
  rw [bkI_len] at hk
  rw [bkI_at hk] at h
  exact ⟨hk, (Option.some.inj h).symm⟩
end Go.Proofs.Ytknimlpdpgpliaa
