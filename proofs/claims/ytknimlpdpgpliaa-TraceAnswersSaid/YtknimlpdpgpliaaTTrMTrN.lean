/- The mathematics of traces: lists of packets, their stable order by insertion, merges, sums, what makes a trace valid. Nothing here speaks of the program. By the verifier's side. -/
import Derived.Sort.Defs
namespace Go.Proofs.Ytknimlpdpgpliaa

/-- A packet: its flow, its time, its size. -/
structure Pk where
  f : Int
  t : Int
  s : Int
instance : Inhabited Pk := ⟨⟨0, 0, 0⟩⟩

/-- Ascending by the times. -/
def Asc (l : List Pk) : Prop := l.Pairwise fun x y => x.t ≤ y.t

/-- A packet behind all whose time is not greater. -/
def ins (x : Pk) : List Pk → List Pk
  | [] => [x]
  | y :: r => if x.t < y.t then x :: y :: r else y :: ins x r

/-- The packets of B, one after the other, into A. -/
def into (A B : List Pk) : List Pk := B.foldl (fun a x => ins x a) A

/-- The stable order. -/
def isort (l : List Pk) : List Pk := into [] l

@[simp] theorem into_nil (A : List Pk) : into A [] = A := rfl
theorem into_cons (A B : List Pk) (b : Pk) : into A (b :: B) = into (ins b A) B := rfl
theorem into_append (A B C : List Pk) : into A (B ++ C) = into (into A B) C := by unfold into; rw [List.foldl_append]
theorem into_snoc (A B : List Pk) (x : Pk) : into A (B ++ [x]) = ins x (into A B) := by rw [into_append]; rfl
theorem isort_snoc (B : List Pk) (x : Pk) : isort (B ++ [x]) = ins x (isort B) := into_snoc _ _ _

theorem ins_length (x : Pk) : ∀ l : List Pk, (ins x l).length = l.length + 1
  | [] => rfl
  | y :: r => by
    unfold ins; split
    · rfl
    · simp only [List.length_cons, ins_length x r]
theorem into_length : ∀ (B A : List Pk), (into A B).length = A.length + B.length
  | [], A => rfl
  | b :: B, A => by rw [into_cons, into_length B, ins_length]; simp only [List.length_cons]; omega
theorem isort_length (l : List Pk) : (isort l).length = l.length := by unfold isort; rw [into_length]; simp

theorem mem_ins (x z : Pk) : ∀ l : List Pk, z ∈ ins x l ↔ z = x ∨ z ∈ l
  | [] => by simp [ins]
  | y :: r => by
    unfold ins; split
    · simp
    · simp only [List.mem_cons, mem_ins x z r]
      constructor
      · rintro (h | h | h)
        · exact Or.inr (Or.inl h)
        · exact Or.inl h
        · exact Or.inr (Or.inr h)
      · rintro (h | h | h)
        · exact Or.inr (Or.inl h)
        · exact Or.inl h
        · exact Or.inr (Or.inr h)
theorem mem_into (z : Pk) : ∀ (B A : List Pk), z ∈ into A B ↔ z ∈ A ∨ z ∈ B
  | [], A => by simp
  | b :: B, A => by
    rw [into_cons, mem_into z B, mem_ins, List.mem_cons]
    constructor
    · rintro ((h | h) | h)
      · exact Or.inr (Or.inl h)
      · exact Or.inl h
      · exact Or.inr (Or.inr h)
    · rintro (h | h | h)
      · exact Or.inl (Or.inr h)
      · exact Or.inl (Or.inl h)
      · exact Or.inr h
theorem mem_isort (z : Pk) (l : List Pk) : z ∈ isort l ↔ z ∈ l := by unfold isort; rw [mem_into]; simp

theorem ins_gt (x : Pk) (Z : List Pk) (h : ∀ z ∈ Z, x.t < z.t) : ∀ A : List Pk, ins x (A ++ Z) = ins x A ++ Z
  | [] => by
    cases Z with
    | nil => rfl
    | cons z Z => show ins x (z :: Z) = x :: z :: Z; unfold ins; rw [if_pos (h z (by simp))]
  | a :: A => by
    show ins x (a :: (A ++ Z)) = ins x (a :: A) ++ Z
    unfold ins
    by_cases c : x.t < a.t
    · rw [if_pos c, if_pos c]; rfl
    · rw [if_neg c, if_neg c, ins_gt x Z h A]; rfl
theorem ins_le (x : Pk) (Z : List Pk) : ∀ A : List Pk, (∀ a ∈ A, a.t ≤ x.t) → ins x (A ++ Z) = A ++ ins x Z
  | [], _ => rfl
  | a :: A, h => by
    show ins x (a :: (A ++ Z)) = a :: (A ++ ins x Z)
    unfold ins
    have := h a (by simp)
    rw [if_neg (by omega), ins_le x Z A (fun b hb => h b (by simp [hb]))]
    cases Z <;> rfl
theorem ins_last (x : Pk) (A : List Pk) (h : ∀ a ∈ A, a.t ≤ x.t) : ins x A = A ++ [x] := by
  have := ins_le x [] A h
  rw [List.append_nil] at this; exact this
theorem ins_mid (x : Pk) (A Z : List Pk) (h : ∀ a ∈ A, a.t ≤ x.t) (g : ∀ z ∈ Z, x.t < z.t) : ins x (A ++ Z) = A ++ x :: Z := by
  rw [ins_gt x Z g, ins_last x A h]; simp

theorem ins_comm (x y : Pk) (h : x.t < y.t) : ∀ A : List Pk, ins y (ins x A) = ins x (ins y A)
  | [] => by simp only [ins]; rw [if_neg (by omega), if_pos h]
  | a :: A => by
    by_cases c : x.t < a.t
    · rw [show ins x (a :: A) = x :: a :: A from by rw [ins, if_pos c]]
      rw [show ins y (x :: a :: A) = x :: ins y (a :: A) from by rw [ins, if_neg (by omega)]]
      by_cases d : y.t < a.t
      · rw [show ins y (a :: A) = y :: a :: A from by rw [ins, if_pos d]]
        rw [ins, if_pos h]
      · rw [show ins y (a :: A) = a :: ins y A from by rw [ins, if_neg d]]
        rw [ins, if_pos c]
    · rw [show ins x (a :: A) = a :: ins x A from by rw [ins, if_neg c]]
      rw [show ins y (a :: A) = a :: ins y A from by rw [ins, if_neg (by omega)]]
      rw [ins, if_neg (by omega), ins, if_neg c, ins_comm x y h A]

theorem into_gt (Z : List Pk) : ∀ (B A : List Pk), (∀ y ∈ B, ∀ z ∈ Z, y.t < z.t) → into (A ++ Z) B = into A B ++ Z
  | [], A, _ => rfl
  | b :: B, A, h => by
    rw [into_cons, into_cons, ins_gt b Z (h b (by simp)), into_gt Z B _ (fun y hy => h y (by simp [hy]))]
theorem into_le (A : List Pk) : ∀ (B Z : List Pk), (∀ y ∈ B, ∀ a ∈ A, a.t ≤ y.t) → into (A ++ Z) B = A ++ into Z B
  | [], Z, _ => rfl
  | b :: B, Z, h => by
    rw [into_cons, into_cons, ins_le b Z A (h b (by simp)), into_le A B _ (fun y hy => h y (by simp [hy]))]

/-- Two lists that are parted at one place each: the lesser halves, and then the greater ones. -/
theorem into_split (A1 A2 B1 B2 : List Pk) (h12 : ∀ x ∈ A1, ∀ y ∈ B2, x.t ≤ y.t) (h21 : ∀ y ∈ B1, ∀ x ∈ A2, y.t < x.t) (hB : Asc (B1 ++ B2)) : into (A1 ++ A2) (B1 ++ B2) = into A1 B1 ++ into A2 B2 := by
  rw [into_append, into_gt A2 B1 A1 h21]
  refine into_le _ _ _ (fun y hy a ha => ?_)
  rcases (mem_into a B1 A1).1 ha with h | h
  · exact h12 a h y hy
  · exact (List.pairwise_append.1 hB).2.2 a h y hy

theorem asc_cons {x : Pk} {l : List Pk} : Asc (x :: l) ↔ (∀ y ∈ l, x.t ≤ y.t) ∧ Asc l := List.pairwise_cons
theorem asc_append {A B : List Pk} : Asc (A ++ B) ↔ Asc A ∧ Asc B ∧ ∀ x ∈ A, ∀ y ∈ B, x.t ≤ y.t := List.pairwise_append
theorem asc_nil : Asc [] := List.Pairwise.nil
theorem asc_one (x : Pk) : Asc [x] := List.pairwise_singleton _ _

theorem ins_asc (x : Pk) : ∀ l : List Pk, Asc l → Asc (ins x l)
  | [], _ => asc_one x
  | y :: r, h => by
    unfold ins
    have hc := asc_cons.1 h
    split
    · rename_i c
      refine asc_cons.2 ⟨fun z hz => ?_, h⟩
      rcases List.mem_cons.1 hz with e | e
      · rw [e]; omega
      · have := hc.1 z e; omega
    · rename_i c
      refine asc_cons.2 ⟨fun z hz => ?_, ins_asc x r hc.2⟩
      rcases (mem_ins x z r).1 hz with e | e
      · rw [e]; omega
      · exact hc.1 z e
theorem into_asc : ∀ (B A : List Pk), Asc A → Asc (into A B)
  | [], A, h => h
  | b :: B, A, h => by rw [into_cons]; exact into_asc B _ (ins_asc b A h)
theorem isort_asc (l : List Pk) : Asc (isort l) := into_asc l [] asc_nil

theorem into_app : ∀ (B A : List Pk), Asc (A ++ B) → into A B = A ++ B
  | [], A, _ => by simp
  | b :: B, A, h => by
    have hA := asc_append.1 h
    rw [into_cons, ins_last b A (fun a ha => hA.2.2 a ha b (by simp)), into_app B (A ++ [b]) (by rw [List.append_assoc]; exact h)]
    simp
theorem isort_id (l : List Pk) (h : Asc l) : isort l = l := by unfold isort; rw [into_app l [] (by simpa using h)]; simp
theorem into_one (x : Pk) (B1 B2 : List Pk) (h1 : ∀ y ∈ B1, y.t < x.t) (h2 : ∀ y ∈ B2, x.t ≤ y.t) (hB : Asc (B1 ++ B2)) : into [x] (B1 ++ B2) = B1 ++ x :: B2 := by
  have := into_split [] [x] B1 B2 (by simp) (fun y hy z hz => by rw [List.mem_singleton.1 hz]; exact h1 y hy) hB
  rw [List.nil_append] at this
  have hh := asc_append.1 hB
  rw [this, show into [] B1 = B1 from isort_id B1 hh.1, into_app B2 [x] (asc_cons.2 ⟨h2, hh.2.1⟩)]
  rfl

theorem into_ins_gt (x : Pk) : ∀ (C A : List Pk), (∀ y ∈ C, x.t < y.t) → into (ins x A) C = ins x (into A C)
  | [], A, _ => rfl
  | c :: C, A, h => by
    rw [into_cons, into_cons, ins_comm x c (h c (by simp)), into_ins_gt x C _ (fun y hy => h y (by simp [hy]))]
theorem into_ins (x : Pk) : ∀ (B A : List Pk), Asc B → into A (ins x B) = ins x (into A B)
  | [], A, _ => rfl
  | b :: B, A, h => by
    have hc := asc_cons.1 h
    by_cases c : x.t < b.t
    · rw [show ins x (b :: B) = x :: b :: B from by rw [ins, if_pos c], into_cons]
      refine into_ins_gt x (b :: B) A (fun y hy => ?_)
      rcases List.mem_cons.1 hy with e | e
      · rw [e]; exact c
      · have := hc.1 y e; omega
    · rw [show ins x (b :: B) = b :: ins x B from by rw [ins, if_neg c], into_cons, into_cons, into_ins x B _ hc.2]
theorem into_into : ∀ (B acc A : List Pk), Asc acc → into A (into acc B) = into (into A acc) B
  | [], acc, A, _ => rfl
  | b :: B, acc, A, h => by
    rw [into_cons, into_into B (ins b acc) A (ins_asc b acc h), into_ins b acc A h, into_cons]
/-- The merge of two ordered lists is the order of both. -/
theorem into_isort (L R : List Pk) : into (isort L) (isort R) = isort (L ++ R) := by
  unfold isort
  rw [into_into R [] _ asc_nil, into_append]; rfl

/-- A sum over a list. -/
def sumG (g : Pk → Int) : List Pk → Int
  | [] => 0
  | x :: r => g x + sumG g r
theorem sumG_append (g : Pk → Int) (B : List Pk) : ∀ A : List Pk, sumG g (A ++ B) = sumG g A + sumG g B
  | [] => by simp [sumG]
  | a :: A => by show g a + sumG g (A ++ B) = g a + sumG g A + sumG g B; rw [sumG_append g B A]; omega
theorem sumG_congr (g k : Pk → Int) : ∀ l : List Pk, (∀ x ∈ l, g x = k x) → sumG g l = sumG k l
  | [], _ => rfl
  | x :: r, h => by
    show g x + _ = k x + _
    rw [h x (by simp), sumG_congr g k r (fun y hy => h y (by simp [hy]))]
theorem sumG_add (g k : Pk → Int) : ∀ l : List Pk, sumG (fun x => g x + k x) l = sumG g l + sumG k l
  | [] => rfl
  | x :: r => by show g x + k x + _ = g x + _ + (k x + _); rw [sumG_add g k r]; omega
theorem sumG_mono (g k : Pk → Int) : ∀ l : List Pk, (∀ x ∈ l, g x ≤ k x) → sumG g l ≤ sumG k l
  | [], _ => Int.le_refl _
  | x :: r, h => by
    have h1 := h x (by simp)
    have h2 := sumG_mono g k r (fun y hy => h y (by simp [hy]))
    show g x + _ ≤ k x + _; omega
theorem sumG_zero : ∀ l : List Pk, sumG (fun _ => 0) l = 0
  | [] => rfl
  | _ :: r => by show 0 + _ = _; rw [sumG_zero r]; rfl
theorem sumG_bound (g : Pk → Int) (m : Int) : ∀ l : List Pk, (∀ x ∈ l, g x ≤ m) → sumG g l ≤ (l.length : Int) * m
  | [], _ => by simp [sumG]
  | x :: r, h => by
    have h1 := h x (by simp)
    have h2 := sumG_bound g m r (fun y hy => h y (by simp [hy]))
    show g x + _ ≤ ((r.length + 1 : Nat) : Int) * m
    have : ((r.length + 1 : Nat) : Int) * m = (r.length : Int) * m + m := by
      rw [Int.natCast_add, Int.add_mul]; simp
    omega

/-- Whether a packet is one of a flow (-1: of all). -/
def ofFlow (fl : Int) (q : Pk) : Bool := decide (-1 ≤ fl) && (decide (fl = -1) || decide (q.f = fl))
/-- The packets of a flow. -/
def sel (fl : Int) (l : List Pk) : List Pk := l.filter (ofFlow fl)
/-- Every time later. -/
def lateP (d : Int) (q : Pk) : Pk := ⟨q.f, q.t + d, q.s⟩

/-- A packet within its ranges. -/
def okP (q : Pk) : Bool := decide (0 ≤ q.f) && decide (q.f ≤ 59) && decide (0 ≤ q.t) && decide (q.t ≤ 2000) && decide (1 ≤ q.s) && decide (q.s ≤ 1500)
/-- The first fault of packets behind one of the time p: 0 is none, er a range, eo the order. -/
def vgo (er eo : Int) (p : Int) : List Pk → Int
  | [] => 0
  | x :: r => if okP x = true then (if x.t < p then eo else vgo er eo x.t r) else er

theorem okP_iff (q : Pk) : okP q = true ↔ (0 ≤ q.f ∧ q.f ≤ 59 ∧ 0 ≤ q.t ∧ q.t ≤ 2000 ∧ 1 ≤ q.s ∧ q.s ≤ 1500) := by
  unfold okP; simp only [Bool.and_eq_true, decide_eq_true_eq]; omega

theorem vgo_ok (er eo : Int) (h1 : er ≠ 0) (h2 : eo ≠ 0) : ∀ (l : List Pk) (p : Int), vgo er eo p l = 0 ↔ (∀ q ∈ l, okP q = true ∧ p ≤ q.t) ∧ Asc l
  | [], p => by simp [vgo, asc_nil]
  | x :: r, p => by
    unfold vgo
    by_cases c : okP x = true
    · rw [if_pos c]
      by_cases d : x.t < p
      · rw [if_pos d]
        constructor
        · intro h; exact absurd h h2
        · intro h; have := (h.1 x (by simp)).2; omega
      · rw [if_neg d, vgo_ok er eo h1 h2 r x.t, asc_cons]
        constructor
        · rintro ⟨ha, hb⟩
          refine ⟨fun q hq => ?_, fun y hy => (ha y hy).2, hb⟩
          rcases List.mem_cons.1 hq with e | e
          · rw [e]; exact ⟨c, by omega⟩
          · exact ⟨(ha q e).1, by have := (ha q e).2; omega⟩
        · rintro ⟨ha, hb, hc⟩
          exact ⟨fun q hq => ⟨(ha q (by simp [hq])).1, hb q hq⟩, hc⟩
    · rw [if_neg c]
      constructor
      · intro h; exact absurd h h1
      · intro h; exact absurd (h.1 x (by simp)).1 c

/-- The code of a list's first fault. -/
def vcode (l : List Pk) : Int := if 60 < l.length then 3 else vgo 2 7 0 l
end Go.Proofs.Ytknimlpdpgpliaa

namespace Go.Proofs.Ytknimlpdpgpliaa

/-- The time of the packet at a place. -/
def tm (y : List Pk) (k : Nat) : Int := (y.getD k default).t
theorem tm_of {y : List Pk} {k : Nat} {q : Pk} (h : y[k]? = some q) : tm y k = q.t := by unfold tm; rw [List.getD_eq_getElem?_getD, h]; rfl

/-- x is on its way to the left: A and C are in order, x is less than all of C. -/
def InsL (L' : List Pk) (a n j : Nat) (y : List Pk) (x : Pk) : Prop :=
  ∃ P A C R, y = P ++ (A ++ (x :: (C ++ R))) ∧ P.length = a ∧ j = a + A.length ∧ Asc (A ++ C) ∧ (∀ z ∈ C, x.t < z.t) ∧ L' = P ++ (ins x (A ++ C) ++ R) ∧ y.length = n
theorem InsL.bounds {L' y : List Pk} {a n j : Nat} {x : Pk} (h : InsL L' a n j y x) : a ≤ j ∧ j < n ∧ y.length = n ∧ y[j]? = some x := by
  obtain ⟨P, A, C, R, rfl, hP, hj, h1, h2, h3, hn⟩ := h
  refine ⟨by omega, ?_, hn, ?_⟩
  · simp only [List.length_append, List.length_cons] at hn; omega
  · rw [List.getElem?_append_right (by omega), List.getElem?_append_right (by omega), show j - P.length - A.length = 0 by omega]; rfl
theorem InsL.stop {L' y : List Pk} {a n j : Nat} {x : Pk} (h : InsL L' a n j y x) (hs : j = a ∨ ∃ z, y[j - 1]? = some z ∧ ¬ x.t < z.t) : y = L' := by
  obtain ⟨P, A, C, R, rfl, hP, hj, h1, h2, rfl, hn⟩ := h
  have : ∀ z ∈ A, z.t ≤ x.t := by
    rcases hs with hs | ⟨z, hz, hx⟩
    · intro z hz
      have : A = [] := List.length_eq_zero_iff.1 (by omega)
      rw [this] at hz; cases hz
    · intro u hu
      rcases List.eq_nil_or_concat A with hA | ⟨A', z', hA⟩
      · rw [hA] at hu; cases hu
      · rw [List.concat_eq_append] at hA
        subst hA
        have e : (P ++ (A' ++ [z'] ++ (x :: (C ++ R))))[j - 1]? = some z' := by
          rw [List.length_append] at hj
          simp only [List.length_singleton] at hj
          rw [List.getElem?_append_right (by omega), List.append_assoc, List.getElem?_append_right (by omega), show j - 1 - P.length - A'.length = 0 by omega]; rfl
        rw [e] at hz
        have ez : z' = z := Option.some.inj hz
        subst ez
        have := (asc_append.1 (asc_append.1 h1).1).2.2
        rcases List.mem_append.1 hu with k | k
        · have := this u k z' (by simp); omega
        · rw [List.mem_singleton.1 k]; omega
  rw [ins_mid x A C this h2]
  simp
theorem InsL.step {L' y : List Pk} {a n j : Nat} {x z : Pk} (h : InsL L' a n (j + 1) y x) (ha : a ≤ j) (hz : y[j]? = some z) (hx : x.t < z.t) : InsL L' a n j ((y.set (j + 1) z).set j x) x := by
  obtain ⟨P, A, C, R, rfl, hP, hj, h1, h2, rfl, hn⟩ := h
  rcases List.eq_nil_or_concat A with hA | ⟨A', z', hA⟩
  · subst hA; simp at hj; omega
  · rw [List.concat_eq_append] at hA
    subst hA
    rw [List.length_append] at hj
    simp only [List.length_singleton] at hj
    have e : (P ++ (A' ++ [z'] ++ (x :: (C ++ R))))[j]? = some z' := by
      rw [List.getElem?_append_right (by omega), List.append_assoc, List.getElem?_append_right (by omega), show j - P.length - A'.length = 0 by omega]; rfl
    rw [e] at hz
    have ez : z' = z := Option.some.inj hz
    subst ez
    refine ⟨P, A', z' :: C, R, ?_, hP, by omega, by simpa using h1, fun u hu => ?_, by simp, by simpa using hn⟩
    · have eP : j + 1 = (P ++ (A' ++ [z'])).length := by simp; omega
      have eQ : j = (P ++ A').length := by simp; omega
      rw [show P ++ (A' ++ [z'] ++ (x :: (C ++ R))) = (P ++ (A' ++ [z'])) ++ (x :: (C ++ R)) by simp]
      rw [List.set_append_right _ _ (by omega), eP, Nat.sub_self]
      show (P ++ (A' ++ [z']) ++ z' :: (C ++ R)).set j x = _
      rw [show P ++ (A' ++ [z']) ++ z' :: (C ++ R) = (P ++ A') ++ (z' :: z' :: (C ++ R)) by simp]
      rw [List.set_append_right _ _ (by omega), eQ, Nat.sub_self]
      simp
    · rcases List.mem_cons.1 hu with k | k
      · rw [k]; exact hx
      · exact h2 u k

/-- t packets behind the place a are in order. -/
def InsO (L' : List Pk) (a b n t : Nat) (y : List Pk) : Prop :=
  ∃ P X Q, P.length = a ∧ a + X.length = b ∧ y = P ++ (isort (X.take t) ++ (X.drop t ++ Q)) ∧ L' = P ++ (isort X ++ Q) ∧ y.length = n ∧ 1 ≤ t
theorem InsO.start {P X Q y : List Pk} (hy : y = P ++ (X ++ Q)) : InsO (P ++ (isort X ++ Q)) P.length (P.length + X.length) y.length 1 y := by
  refine ⟨P, X, Q, rfl, rfl, ?_, rfl, rfl, Nat.le_refl _⟩
  rw [hy]
  cases X with
  | nil => rfl
  | cons x X => rw [isort_id _ (by simpa using asc_one x)]; rfl
theorem InsO.next {L' y : List Pk} {a b n t : Nat} (h : InsO L' a b n t y) (ht : a + t < b) : ∃ x L1, InsL L1 a n (a + t) y x ∧ InsO L' a b n (t + 1) L1 := by
  obtain ⟨P, X, Q, hP, hX, rfl, rfl, hn, h1⟩ := h
  have hl : t < X.length := by omega
  have hd : X.drop t = X[t] :: X.drop (t + 1) := List.drop_eq_getElem_cons hl
  have hk : X.take (t + 1) = X.take t ++ [X[t]] := by rw [List.take_add_one, List.getElem?_eq_getElem hl]; rfl
  have hlt : (isort (X.take t)).length = t := by rw [isort_length, List.length_take]; omega
  refine ⟨X[t], P ++ (ins X[t] (isort (X.take t)) ++ (X.drop (t + 1) ++ Q)), ⟨P, isort (X.take t), [], X.drop (t + 1) ++ Q, by rw [hd]; rfl, hP, by omega, by simpa using isort_asc _, by simp, by simp, hn⟩, P, X, Q, hP, hX, ?_, rfl, ?_, by omega⟩
  · rw [hk, isort_snoc]
  · rw [hd] at hn
    simp only [List.length_append, List.length_cons, ins_length] at hn ⊢; omega
theorem InsO.fin {L' y : List Pk} {a b n t : Nat} (h : InsO L' a b n t y) (ht : ¬ a + t < b) : y = L' := by
  obtain ⟨P, X, Q, hP, hX, rfl, rfl, hn, h1⟩ := h
  rw [List.take_of_length_le (by omega), List.drop_of_length_le (by omega)]; rfl
theorem InsO.len {L' y : List Pk} {a b n t : Nat} (h : InsO L' a b n t y) : y.length = n ∧ b ≤ n := by
  obtain ⟨P, X, Q, hP, hX, rfl, rfl, hn, h1⟩ := h
  refine ⟨hn, ?_⟩
  have e : (isort (X.take t)).length + (X.drop t).length = X.length := by rw [isort_length, ← List.length_append, List.take_append_drop]
  simp only [List.length_append] at hn
  omega

/-- x is on its way to the right, behind all of C. -/
def ShR (L' : List Pk) (n i k : Nat) (y : List Pk) (x : Pk) : Prop := ∃ P C R, y = P ++ (x :: (C ++ R)) ∧ P.length = k ∧ k + C.length + 1 = i ∧ L' = P ++ (C ++ x :: R) ∧ y.length = n
theorem ShR.bounds {L' y : List Pk} {n i k : Nat} {x : Pk} (h : ShR L' n i k y x) : k + 1 ≤ i ∧ i ≤ n ∧ y.length = n ∧ y[k]? = some x := by
  obtain ⟨P, C, R, rfl, hP, hk, h1, hn⟩ := h
  refine ⟨by omega, ?_, hn, ?_⟩
  · simp only [List.length_append, List.length_cons] at hn; omega
  · rw [List.getElem?_append_right (by omega), show k - P.length = 0 by omega]; rfl
theorem ShR.stop {L' y : List Pk} {n i k : Nat} {x : Pk} (h : ShR L' n i k y x) (hs : ¬ k + 1 < i) : y = L' := by
  obtain ⟨P, C, R, rfl, hP, hk, rfl, hn⟩ := h
  have : C = [] := List.length_eq_zero_iff.1 (by omega)
  subst this; rfl
theorem ShR.step {L' y : List Pk} {n i k : Nat} {x z : Pk} (h : ShR L' n i k y x) (hs : k + 1 < i) (hz : y[k + 1]? = some z) : ShR L' n i (k + 1) ((y.set k z).set (k + 1) x) x := by
  obtain ⟨P, C, R, rfl, hP, hk, rfl, hn⟩ := h
  cases C with
  | nil => simp at hk; omega
  | cons c C =>
    rw [List.getElem?_append_right (by omega), show k + 1 - P.length = 1 by omega] at hz
    have ez : c = z := Option.some.inj hz
    subst ez
    refine ⟨P ++ [c], C, R, ?_, by simp; omega, by simp at hk; omega, by simp, by simpa using hn⟩
    rw [List.set_append_right _ _ (by omega), show k - P.length = 0 by omega]
    show (P ++ (c :: (c :: C ++ R))).set (k + 1) x = _
    rw [List.set_append_right _ _ (by omega), show k + 1 - P.length = 1 by omega]
    simp

/-- x is on its way to the left, ahead of all of C. -/
def ShL (L' : List Pk) (n i k : Nat) (y : List Pk) (x : Pk) : Prop := ∃ P C R, y = P ++ (C ++ (x :: R)) ∧ P.length = i ∧ i + C.length = k ∧ L' = P ++ (x :: (C ++ R)) ∧ y.length = n
theorem ShL.bounds {L' y : List Pk} {n i k : Nat} {x : Pk} (h : ShL L' n i k y x) : i ≤ k ∧ k < n ∧ y.length = n ∧ y[k]? = some x := by
  obtain ⟨P, C, R, rfl, hP, hk, h1, hn⟩ := h
  refine ⟨by omega, ?_, hn, ?_⟩
  · simp only [List.length_append, List.length_cons] at hn; omega
  · rw [List.getElem?_append_right (by omega), List.getElem?_append_right (by omega), show k - P.length - C.length = 0 by omega]; rfl
theorem ShL.stop {L' y : List Pk} {n i k : Nat} {x : Pk} (h : ShL L' n i k y x) (hs : ¬ i < k) : y = L' := by
  obtain ⟨P, C, R, rfl, hP, hk, rfl, hn⟩ := h
  have : C = [] := List.length_eq_zero_iff.1 (by omega)
  subst this; rfl
theorem ShL.step {L' y : List Pk} {n i k : Nat} {x z : Pk} (h : ShL L' n i (k + 1) y x) (hs : i < k + 1) (hz : y[k]? = some z) : ShL L' n i k ((y.set (k + 1) z).set k x) x := by
  obtain ⟨P, C, R, rfl, hP, hk, rfl, hn⟩ := h
  rcases List.eq_nil_or_concat C with hC | ⟨C', c, hC⟩
  · subst hC; simp at hk; omega
  · rw [List.concat_eq_append] at hC
    subst hC
    simp only [List.length_append, List.length_singleton] at hk
    have e : (P ++ (C' ++ [c] ++ (x :: R)))[k]? = some c := by
      rw [List.getElem?_append_right (by omega), List.append_assoc, List.getElem?_append_right (by omega), show k - P.length - C'.length = 0 by omega]; rfl
    rw [e] at hz
    have ez : c = z := Option.some.inj hz
    subst ez
    refine ⟨P, C', c :: R, ?_, hP, by omega, by simp, by simpa using hn⟩
    have eP : k + 1 = (P ++ (C' ++ [c])).length := by simp; omega
    have eQ : k = (P ++ C').length := by simp; omega
    rw [show P ++ (C' ++ [c] ++ (x :: R)) = (P ++ (C' ++ [c])) ++ (x :: R) by simp]
    rw [List.set_append_right _ _ (by omega), eP, Nat.sub_self]
    show (P ++ (C' ++ [c]) ++ c :: R).set k x = _
    rw [show P ++ (C' ++ [c]) ++ c :: R = (P ++ C') ++ (c :: c :: R) by simp]
    rw [List.set_append_right _ _ (by omega), eQ, Nat.sub_self]
    simp

/-- Two runs in order, which are to be merged. -/
def Mer (L' : List Pk) (a m b n : Nat) (y : List Pk) : Prop :=
  ∃ P A C Q, y = P ++ (A ++ (C ++ Q)) ∧ P.length = a ∧ a + A.length = m ∧ m + C.length = b ∧ Asc A ∧ Asc C ∧ L' = P ++ (into A C ++ Q) ∧ y.length = n
theorem Mer.bounds {L' y : List Pk} {a m b n : Nat} (h : Mer L' a m b n y) : a ≤ m ∧ m ≤ b ∧ b ≤ n ∧ y.length = n := by
  obtain ⟨P, A, C, Q, rfl, hP, hA, hC, h1, h2, h3, hn⟩ := h
  have := hn
  simp only [List.length_append] at this
  exact ⟨by omega, by omega, by omega, hn⟩
theorem asc_tm {A : List Pk} (h : Asc A) {i j : Nat} (hij : i ≤ j) (hj : j < A.length) : (A[i]'(by omega)).t ≤ (A[j]).t := by
  rcases Nat.lt_or_ge i j with c | c
  · exact (List.pairwise_iff_getElem.1 h) i j (by omega) hj c
  · have : i = j := by omega
    subst this; exact Int.le_refl _
theorem Mer.ascL {L' y : List Pk} {a m b n : Nat} (h : Mer L' a m b n y) {i j : Nat} (hi : a ≤ i) (hij : i ≤ j) (hj : j < m) : tm y i ≤ tm y j := by
  obtain ⟨P, A, C, Q, rfl, hP, hA, hC, h1, h2, h3, hn⟩ := h
  have e : ∀ k, a ≤ k → (hk : k < m) → (P ++ (A ++ (C ++ Q)))[k]? = some (A[k - a]'(by omega)) := fun k h1 h2 => by
    rw [List.getElem?_append_right (by omega), List.getElem?_append_left (by omega), List.getElem?_eq_getElem (by omega)]
    congr 2; omega
  rw [tm_of (e i hi (by omega)), tm_of (e j (by omega) hj)]
  exact asc_tm h1 (by omega) (by omega)
theorem Mer.ascR {L' y : List Pk} {a m b n : Nat} (h : Mer L' a m b n y) {i j : Nat} (hi : m ≤ i) (hij : i ≤ j) (hj : j < b) : tm y i ≤ tm y j := by
  obtain ⟨P, A, C, Q, rfl, hP, hA, hC, h1, h2, h3, hn⟩ := h
  have e : ∀ k, m ≤ k → (hk : k < b) → (P ++ (A ++ (C ++ Q)))[k]? = some (C[k - m]'(by omega)) := fun k h1 h2 => by
    rw [List.getElem?_append_right (by omega), List.getElem?_append_right (by omega), List.getElem?_append_left (by omega), List.getElem?_eq_getElem (by omega)]
    congr 2; omega
  rw [tm_of (e i hi (by omega)), tm_of (e j (by omega) hj)]
  exact asc_tm h2 (by omega) (by omega)
theorem Mer.one {L' y : List Pk} {a m b n i : Nat} (h : Mer L' a m b n y) (hm : m = a + 1) (hi : m ≤ i) (hib : i ≤ b) (h1 : ∀ k, m ≤ k → k < i → tm y k < tm y a) (h2 : ∀ k, i ≤ k → k < b → ¬ tm y k < tm y a) : ∃ x, ShR L' n i a y x := by
  obtain ⟨P, A, C, Q, rfl, hP, hA, hC, hs, hc, rfl, hn⟩ := h
  obtain ⟨x, rfl⟩ : ∃ x, A = [x] := List.length_eq_one_iff.1 (by omega)
  have ea : tm (P ++ ([x] ++ (C ++ Q))) a = x.t := tm_of (by rw [List.getElem?_append_right (by omega), show a - P.length = 0 by omega]; rfl)
  have ek : ∀ k, (h0 : m ≤ k) → (hk : k < b) → tm (P ++ ([x] ++ (C ++ Q))) k = (C[k - m]'(by omega)).t := fun k h1 h2 => tm_of (by
    rw [List.getElem?_append_right (by omega), List.getElem?_append_right (by simp; omega), List.getElem?_append_left (by simp; omega), List.getElem?_eq_getElem (by simp; omega)]
    congr 2; simp; omega)
  have e : C.take (i - m) ++ C.drop (i - m) = C := List.take_append_drop _ _
  have l1 : (C.take (i - m)).length = i - m := by rw [List.length_take]; omega
  refine ⟨x, P, C.take (i - m), C.drop (i - m) ++ Q, ?_, hP, by omega, ?_, hn⟩
  · rw [← List.append_assoc (C.take (i - m)), e]; rfl
  · have := into_one x (C.take (i - m)) (C.drop (i - m)) (fun y hy => ?_) (fun y hy => ?_) (by rw [e]; exact hc)
    · rw [e] at this
      rw [this]; simp
    · obtain ⟨q, hq, rfl⟩ := List.getElem_of_mem hy
      rw [l1] at hq
      have := h1 (m + q) (by omega) (by omega)
      rw [ea, ek (m + q) (by omega) (by omega)] at this
      rw [List.getElem_take]
      simpa using this
    · obtain ⟨q, hq, rfl⟩ := List.getElem_of_mem hy
      rw [List.length_drop] at hq
      have := h2 (i + q) (by omega) (by omega)
      rw [ea, ek (i + q) (by omega) (by omega)] at this
      rw [List.getElem_drop]
      have e2 : i - m + q = i + q - m := by omega
      simp only [e2]
      omega
theorem Mer.two {L' y : List Pk} {a m b n i : Nat} (h : Mer L' a m b n y) (hm : b = m + 1) (hi : a ≤ i) (him : i ≤ m) (h1 : ∀ k, a ≤ k → k < i → ¬ tm y m < tm y k) (h2 : ∀ k, i ≤ k → k < m → tm y m < tm y k) : ∃ x, ShL L' n i m y x := by
  obtain ⟨P, A, C, Q, rfl, hP, hA, hC, hs, hc, rfl, hn⟩ := h
  obtain ⟨x, rfl⟩ : ∃ x, C = [x] := List.length_eq_one_iff.1 (by omega)
  have ea : tm (P ++ (A ++ ([x] ++ Q))) m = x.t := tm_of (by rw [List.getElem?_append_right (by omega), List.getElem?_append_right (by omega), show m - P.length - A.length = 0 by omega]; rfl)
  have ek : ∀ k, (h0 : a ≤ k) → (hk : k < m) → tm (P ++ (A ++ ([x] ++ Q))) k = (A[k - a]'(by omega)).t := fun k h1 h2 => tm_of (by
    rw [List.getElem?_append_right (by omega), List.getElem?_append_left (by omega), List.getElem?_eq_getElem (by omega)]
    congr 2; omega)
  have e : A.take (i - a) ++ A.drop (i - a) = A := List.take_append_drop _ _
  have l1 : (A.take (i - a)).length = i - a := by rw [List.length_take]; omega
  have l2 : (A.drop (i - a)).length = m - i := by rw [List.length_drop]; omega
  refine ⟨x, P ++ A.take (i - a), A.drop (i - a), Q, ?_, by rw [List.length_append]; omega, by omega, ?_, hn⟩
  · rw [List.append_assoc, ← List.append_assoc (A.take (i - a)), e]; rfl
  · have := ins_mid x (A.take (i - a)) (A.drop (i - a)) (fun y hy => ?_) (fun y hy => ?_)
    · rw [e] at this
      show P ++ (ins x A ++ Q) = _
      rw [this]; simp
    · obtain ⟨q, hq, rfl⟩ := List.getElem_of_mem hy
      rw [l1] at hq
      have := h1 (a + q) (by omega) (by omega)
      rw [ea, ek (a + q) (by omega) (by omega)] at this
      rw [List.getElem_take]
      have e2 : a + q - a = q := by omega
      simp only [e2] at this
      omega
    · obtain ⟨q, hq, rfl⟩ := List.getElem_of_mem hy
      rw [l2] at hq
      have := h2 (i + q) (by omega) (by omega)
      rw [ea, ek (i + q) (by omega) (by omega)] at this
      rw [List.getElem_drop]
      have e2 : i - a + q = i + q - a := by omega
      simp only [e2]
      omega
end Go.Proofs.Ytknimlpdpgpliaa
