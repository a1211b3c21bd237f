/- The mathematics of traces: lists of packets, their stable order by insertion, merges, sums, what makes a trace valid. Nothing here speaks of the program. By the verifier's side. -/
import Derived.Sort.Defs
namespace Go.Proofs.YtkienpbmoilheaaGreat

/-- A packet: its flow, its time, its size. -/
structure Pk where
  f : Int
  t : Int
  s : Int
instance : Inhabited Pk := ⟨⟨0, 0, 0⟩⟩

/-- Ascending by the times. -/
def Asc (l : List Pk) : Prop := l.Pairwise fun x y => x.t ≤ y.t

/-- A packet behind all whose time is not greater. -/
def ins (x : Pk) : List Pk → List Pk
  | [] => [x]
  | y :: r => if x.t < y.t then x :: y :: r else y :: ins x r

/-- The packets of B, one after the other, into A. -/
def into (A B : List Pk) : List Pk := B.foldl (fun a x => ins x a) A

@[simp] theorem into_nil (A : List Pk) : into A [] = A := rfl
theorem asc_cons {x : Pk} {l : List Pk} : Asc (x :: l) ↔ (∀ y ∈ l, x.t ≤ y.t) ∧ Asc l := List.pairwise_cons
theorem asc_append {A B : List Pk} : Asc (A ++ B) ↔ Asc A ∧ Asc B ∧ ∀ x ∈ A, ∀ y ∈ B, x.t ≤ y.t := List.pairwise_append
theorem asc_nil : Asc [] := List.Pairwise.nil
theorem asc_one (x : Pk) : Asc [x] := List.pairwise_singleton _ _

/-- Whether a packet is one of a flow (-1: of all). -/
def ofFlow (fl : Int) (q : Pk) : Bool := decide (-1 ≤ fl) && (decide (fl = -1) || decide (q.f = fl))
/-- The packets of a flow. -/
def sel (fl : Int) (l : List Pk) : List Pk := l.filter (ofFlow fl)
/-- A packet within its ranges. -/
def okP (q : Pk) : Bool := decide (0 ≤ q.f) && decide (q.f ≤ 59) && decide (0 ≤ q.t) && decide (q.t ≤ 2000) && decide (1 ≤ q.s) && decide (q.s ≤ 1500)
/-- The first fault of packets behind one of the time p: 0 is none, er a range, eo the order. -/
def vgo (er eo : Int) (p : Int) : List Pk → Int
  | [] => 0
  | x :: r => if okP x = true then (if x.t < p then eo else vgo er eo x.t r) else er

theorem okP_iff (q : Pk) : okP q = true ↔ (0 ≤ q.f ∧ q.f ≤ 59 ∧ 0 ≤ q.t ∧ q.t ≤ 2000 ∧ 1 ≤ q.s ∧ q.s ≤ 1500) := by
  unfold okP; simp only [Bool.and_eq_true, decide_eq_true_eq]; omega

theorem vgo_ok (er eo : Int) (h1 : er ≠ 0) (h2 : eo ≠ 0) : ∀ (l : List Pk) (p : Int), vgo er eo p l = 0 ↔ (∀ q ∈ l, okP q = true ∧ p ≤ q.t) ∧ Asc l
  | [], p => by simp [vgo, asc_nil]
  | x :: r, p => by
    unfold vgo
    by_cases c : okP x = true
    · rw [if_pos c]
      by_cases d : x.t < p
      · rw [if_pos d]
        constructor
        · intro h; exact absurd h h2
        · intro h; have := (h.1 x (by simp)).2; omega
      · rw [if_neg d, vgo_ok er eo h1 h2 r x.t, asc_cons]
        constructor
        · rintro ⟨ha, hb⟩
          refine ⟨fun q hq => ?_, fun y hy => (ha y hy).2, hb⟩
          rcases List.mem_cons.1 hq with e | e
          · rw [e]; exact ⟨c, by omega⟩
          · exact ⟨(ha q e).1, by have := (ha q e).2; omega⟩
        · rintro ⟨ha, hb, hc⟩
          exact ⟨fun q hq => ⟨(ha q (by simp [hq])).1, hb q hq⟩, hc⟩
    · rw [if_neg c]
      constructor
      · intro h; exact absurd h h1
      · intro h; exact absurd (h.1 x (by simp)).1 c

/-- The code of a list's first fault. -/
def vcode (l : List Pk) : Int := if 60 < l.length then 3 else vgo 2 7 0 l
end Go.Proofs.YtkienpbmoilheaaGreat

namespace Go.Proofs.YtkienpbmoilheaaGreat
set_option linter.unusedSimpArgs false
set_option linter.unusedVariables false

/-- A packet: its flow, its time, its size. -/
structure Pk_a where
  f : Int
  t : Int
  s : Int
  i : Int
instance : Inhabited Pk_a := ⟨⟨0, 0, 0, 0⟩⟩

/-- Ascending by the times. -/
def Asc_a (l : List Pk_a) : Prop := l.Pairwise fun x y => x.t ≤ y.t

/-- A packet behind all whose time is not greater. -/
def ins_a (x : Pk_a) : List Pk_a → List Pk_a
  | [] => [x]
  | y :: r => if x.t < y.t then x :: y :: r else y :: ins_a x r

/-- The packets of B, one after the other, into_a A. -/
def into_a (A B : List Pk_a) : List Pk_a := B.foldl (fun a x => ins_a x a) A

/-- The stable order. -/
def isort_a (l : List Pk_a) : List Pk_a := into_a [] l

@[simp] theorem into_nil_a (A : List Pk_a) : into_a A [] = A := rfl
theorem into_cons_a (A B : List Pk_a) (b : Pk_a) : into_a A (b :: B) = into_a (ins_a b A) B := rfl
theorem into_append_a (A B C : List Pk_a) : into_a A (B ++ C) = into_a (into_a A B) C := by unfold into_a; rw [List.foldl_append]
theorem into_snoc_a (A B : List Pk_a) (x : Pk_a) : into_a A (B ++ [x]) = ins_a x (into_a A B) := by rw [into_append_a]; rfl
theorem isort_snoc_a (B : List Pk_a) (x : Pk_a) : isort_a (B ++ [x]) = ins_a x (isort_a B) := into_snoc_a _ _ _

theorem ins_length_a (x : Pk_a) : ∀ l : List Pk_a, (ins_a x l).length = l.length + 1
  | [] => rfl
  | y :: r => by
    unfold ins_a; split
    · rfl
    · simp only [List.length_cons, ins_length_a x r]
theorem into_length_a : ∀ (B A : List Pk_a), (into_a A B).length = A.length + B.length
  | [], A => rfl
  | b :: B, A => by rw [into_cons_a, into_length_a B, ins_length_a]; simp only [List.length_cons]; omega
theorem isort_length_a (l : List Pk_a) : (isort_a l).length = l.length := by unfold isort_a; rw [into_length_a]; simp

theorem mem_ins_a (x z : Pk_a) : ∀ l : List Pk_a, z ∈ ins_a x l ↔ z = x ∨ z ∈ l
  | [] => by simp [ins_a]
  | y :: r => by
    unfold ins_a; split
    · simp
    · simp only [List.mem_cons, mem_ins_a x z r]
      constructor
      · rintro (h | h | h)
        · exact Or.inr (Or.inl h)
        · exact Or.inl h
        · exact Or.inr (Or.inr h)
      · rintro (h | h | h)
        · exact Or.inr (Or.inl h)
        · exact Or.inl h
        · exact Or.inr (Or.inr h)
theorem mem_into_a (z : Pk_a) : ∀ (B A : List Pk_a), z ∈ into_a A B ↔ z ∈ A ∨ z ∈ B
  | [], A => by simp
  | b :: B, A => by
    rw [into_cons_a, mem_into_a z B, mem_ins_a, List.mem_cons]
    constructor
    · rintro ((h | h) | h)
      · exact Or.inr (Or.inl h)
      · exact Or.inl h
      · exact Or.inr (Or.inr h)
    · rintro (h | h | h)
      · exact Or.inl (Or.inr h)
      · exact Or.inl (Or.inl h)
      · exact Or.inr h
theorem mem_isort_a (z : Pk_a) (l : List Pk_a) : z ∈ isort_a l ↔ z ∈ l := by unfold isort_a; rw [mem_into_a]; simp

theorem ins_gt_a (x : Pk_a) (Z : List Pk_a) (h : ∀ z ∈ Z, x.t < z.t) : ∀ A : List Pk_a, ins_a x (A ++ Z) = ins_a x A ++ Z
  | [] => by
    cases Z with
    | nil => rfl
    | cons z Z => show ins_a x (z :: Z) = x :: z :: Z; unfold ins_a; rw [if_pos (h z (by simp))]
  | a :: A => by
    show ins_a x (a :: (A ++ Z)) = ins_a x (a :: A) ++ Z
    unfold ins_a
    by_cases c : x.t < a.t
    · rw [if_pos c, if_pos c]; rfl
    · rw [if_neg c, if_neg c, ins_gt_a x Z h A]; rfl
theorem ins_le_a (x : Pk_a) (Z : List Pk_a) : ∀ A : List Pk_a, (∀ a ∈ A, a.t ≤ x.t) → ins_a x (A ++ Z) = A ++ ins_a x Z
  | [], _ => rfl
  | a :: A, h => by
    show ins_a x (a :: (A ++ Z)) = a :: (A ++ ins_a x Z)
    unfold ins_a
    have := h a (by simp)
    rw [if_neg (by omega), ins_le_a x Z A (fun b hb => h b (by simp [hb]))]
    cases Z <;> rfl
theorem ins_last_a (x : Pk_a) (A : List Pk_a) (h : ∀ a ∈ A, a.t ≤ x.t) : ins_a x A = A ++ [x] := by
  have := ins_le_a x [] A h
  rw [List.append_nil] at this; exact this
theorem ins_mid_a (x : Pk_a) (A Z : List Pk_a) (h : ∀ a ∈ A, a.t ≤ x.t) (g : ∀ z ∈ Z, x.t < z.t) : ins_a x (A ++ Z) = A ++ x :: Z := by
  rw [ins_gt_a x Z g, ins_last_a x A h]; simp

theorem ins_comm_a (x y : Pk_a) (h : x.t < y.t) : ∀ A : List Pk_a, ins_a y (ins_a x A) = ins_a x (ins_a y A)
  | [] => by simp only [ins_a]; rw [if_neg (by omega), if_pos h]
  | a :: A => by
    by_cases c : x.t < a.t
    · rw [show ins_a x (a :: A) = x :: a :: A from by rw [ins_a, if_pos c]]
      rw [show ins_a y (x :: a :: A) = x :: ins_a y (a :: A) from by rw [ins_a, if_neg (by omega)]]
      by_cases d : y.t < a.t
      · rw [show ins_a y (a :: A) = y :: a :: A from by rw [ins_a, if_pos d]]
        rw [ins_a, if_pos h]
      · rw [show ins_a y (a :: A) = a :: ins_a y A from by rw [ins_a, if_neg d]]
        rw [ins_a, if_pos c]
    · rw [show ins_a x (a :: A) = a :: ins_a x A from by rw [ins_a, if_neg c]]
      rw [show ins_a y (a :: A) = a :: ins_a y A from by rw [ins_a, if_neg (by omega)]]
      rw [ins_a, if_neg (by omega), ins_a, if_neg c, ins_comm_a x y h A]

theorem into_gt_a (Z : List Pk_a) : ∀ (B A : List Pk_a), (∀ y ∈ B, ∀ z ∈ Z, y.t < z.t) → into_a (A ++ Z) B = into_a A B ++ Z
  | [], A, _ => rfl
  | b :: B, A, h => by
    rw [into_cons_a, into_cons_a, ins_gt_a b Z (h b (by simp)), into_gt_a Z B _ (fun y hy => h y (by simp [hy]))]
theorem into_le_a (A : List Pk_a) : ∀ (B Z : List Pk_a), (∀ y ∈ B, ∀ a ∈ A, a.t ≤ y.t) → into_a (A ++ Z) B = A ++ into_a Z B
  | [], Z, _ => rfl
  | b :: B, Z, h => by
    rw [into_cons_a, into_cons_a, ins_le_a b Z A (h b (by simp)), into_le_a A B _ (fun y hy => h y (by simp [hy]))]

/-- Two lists that are parted at one place each: the lesser halves, and then the greater ones. -/
theorem into_split_a (A1 A2 B1 B2 : List Pk_a) (h12 : ∀ x ∈ A1, ∀ y ∈ B2, x.t ≤ y.t) (h21 : ∀ y ∈ B1, ∀ x ∈ A2, y.t < x.t) (hB : Asc_a (B1 ++ B2)) : into_a (A1 ++ A2) (B1 ++ B2) = into_a A1 B1 ++ into_a A2 B2 := by
  rw [into_append_a, into_gt_a A2 B1 A1 h21]
  refine into_le_a _ _ _ (fun y hy a ha => ?_)
  rcases (mem_into_a a B1 A1).1 ha with h | h
  · exact h12 a h y hy
  · exact (List.pairwise_append.1 hB).2.2 a h y hy

theorem asc_cons_a {x : Pk_a} {l : List Pk_a} : Asc_a (x :: l) ↔ (∀ y ∈ l, x.t ≤ y.t) ∧ Asc_a l := List.pairwise_cons
theorem asc_append_a {A B : List Pk_a} : Asc_a (A ++ B) ↔ Asc_a A ∧ Asc_a B ∧ ∀ x ∈ A, ∀ y ∈ B, x.t ≤ y.t := List.pairwise_append
theorem asc_nil_a : Asc_a [] := List.Pairwise.nil
theorem asc_one_a (x : Pk_a) : Asc_a [x] := List.pairwise_singleton _ _

theorem ins_asc_a (x : Pk_a) : ∀ l : List Pk_a, Asc_a l → Asc_a (ins_a x l)
  | [], _ => asc_one_a x
  | y :: r, h => by
    unfold ins_a
    have hc := asc_cons_a.1 h
    split
    · rename_i c
      refine asc_cons_a.2 ⟨fun z hz => ?_, h⟩
      rcases List.mem_cons.1 hz with e | e
      · rw [e]; omega
      · have := hc.1 z e; omega
    · rename_i c
      refine asc_cons_a.2 ⟨fun z hz => ?_, ins_asc_a x r hc.2⟩
      rcases (mem_ins_a x z r).1 hz with e | e
      · rw [e]; omega
      · exact hc.1 z e
theorem into_asc_a : ∀ (B A : List Pk_a), Asc_a A → Asc_a (into_a A B)
  | [], A, h => h
  | b :: B, A, h => by rw [into_cons_a]; exact into_asc_a B _ (ins_asc_a b A h)
theorem isort_asc_a (l : List Pk_a) : Asc_a (isort_a l) := into_asc_a l [] asc_nil_a

theorem into_app_a : ∀ (B A : List Pk_a), Asc_a (A ++ B) → into_a A B = A ++ B
  | [], A, _ => by simp
  | b :: B, A, h => by
    have hA := asc_append_a.1 h
    rw [into_cons_a, ins_last_a b A (fun a ha => hA.2.2 a ha b (by simp)), into_app_a B (A ++ [b]) (by rw [List.append_assoc]; exact h)]
    simp
theorem isort_id_a (l : List Pk_a) (h : Asc_a l) : isort_a l = l := by unfold isort_a; rw [into_app_a l [] (by simpa using h)]; simp
theorem into_one_a (x : Pk_a) (B1 B2 : List Pk_a) (h1 : ∀ y ∈ B1, y.t < x.t) (h2 : ∀ y ∈ B2, x.t ≤ y.t) (hB : Asc_a (B1 ++ B2)) : into_a [x] (B1 ++ B2) = B1 ++ x :: B2 := by
  have := into_split_a [] [x] B1 B2 (by simp) (fun y hy z hz => by rw [List.mem_singleton.1 hz]; exact h1 y hy) hB
  rw [List.nil_append] at this
  have hh := asc_append_a.1 hB
  rw [this, show into_a [] B1 = B1 from isort_id_a B1 hh.1, into_app_a B2 [x] (asc_cons_a.2 ⟨h2, hh.2.1⟩)]
  rfl

theorem into_ins_gt_a (x : Pk_a) : ∀ (C A : List Pk_a), (∀ y ∈ C, x.t < y.t) → into_a (ins_a x A) C = ins_a x (into_a A C)
  | [], A, _ => rfl
  | c :: C, A, h => by
    rw [into_cons_a, into_cons_a, ins_comm_a x c (h c (by simp)), into_ins_gt_a x C _ (fun y hy => h y (by simp [hy]))]
theorem into_ins_a (x : Pk_a) : ∀ (B A : List Pk_a), Asc_a B → into_a A (ins_a x B) = ins_a x (into_a A B)
  | [], A, _ => rfl
  | b :: B, A, h => by
    have hc := asc_cons_a.1 h
    by_cases c : x.t < b.t
    · rw [show ins_a x (b :: B) = x :: b :: B from by rw [ins_a, if_pos c], into_cons_a]
      refine into_ins_gt_a x (b :: B) A (fun y hy => ?_)
      rcases List.mem_cons.1 hy with e | e
      · rw [e]; exact c
      · have := hc.1 y e; omega
    · rw [show ins_a x (b :: B) = b :: ins_a x B from by rw [ins_a, if_neg c], into_cons_a, into_cons_a, into_ins_a x B _ hc.2]
theorem into_into_a : ∀ (B acc A : List Pk_a), Asc_a acc → into_a A (into_a acc B) = into_a (into_a A acc) B
  | [], acc, A, _ => rfl
  | b :: B, acc, A, h => by
    rw [into_cons_a, into_into_a B (ins_a b acc) A (ins_asc_a b acc h), into_ins_a b acc A h, into_cons_a]
/-- The merge of two ordered lists is the order of both. -/
theorem into_isort_a (L R : List Pk_a) : into_a (isort_a L) (isort_a R) = isort_a (L ++ R) := by
  unfold isort_a
  rw [into_into_a R [] _ asc_nil_a, into_append_a]; rfl

/-- Of each time the same packets, in the same order. -/
theorem ins_filter_a (x : Pk_a) (τ : Int) : ∀ l : List Pk_a, Asc_a l → (ins_a x l).filter (fun q => q.t == τ) = l.filter (fun q => q.t == τ) ++ [x].filter (fun q => q.t == τ)
  | [], _ => by simp [ins_a]
  | y :: r, h => by
    have hc := asc_cons_a.1 h
    unfold ins_a
    by_cases c : x.t < y.t
    · rw [if_pos c]
      by_cases e : x.t = τ
      · have hr : (y :: r).filter (fun q => q.t == τ) = [] := by
          refine List.filter_eq_nil_iff.2 (fun z hz => ?_)
          rcases List.mem_cons.1 hz with k | k
          · rw [k]; simp; omega
          · have := hc.1 z k; simp; omega
        rw [List.filter_cons, hr]; simp [e]
      · rw [List.filter_cons]; simp [e]
    · rw [if_neg c, List.filter_cons, List.filter_cons, ins_filter_a x τ r hc.2]
      split <;> simp
theorem into_filter_a (τ : Int) : ∀ (B A : List Pk_a), Asc_a A → (into_a A B).filter (fun q => q.t == τ) = A.filter (fun q => q.t == τ) ++ B.filter (fun q => q.t == τ)
  | [], A, _ => by simp
  | b :: B, A, h => by
    rw [into_cons_a, into_filter_a τ B _ (ins_asc_a b A h), ins_filter_a b τ A h, List.append_assoc, ← List.filter_append]; rfl
theorem isort_filter_a (τ : Int) (l : List Pk_a) : (isort_a l).filter (fun q => q.t == τ) = l.filter (fun q => q.t == τ) := by
  unfold isort_a; rw [into_filter_a τ l [] asc_nil_a]; simp

/-- The time of the packet at a place. -/
def tm_a (y : List Pk_a) (k : Nat) : Int := (y.getD k default).t
theorem tm_of_a {y : List Pk_a} {k : Nat} {q : Pk_a} (h : y[k]? = some q) : tm_a y k = q.t := by unfold tm_a; rw [List.getD_eq_getElem?_getD, h]; rfl

/-- x is on its way to the left: A and C are in order, x is less than all of C. -/
def InsL_a (L' : List Pk_a) (a n j : Nat) (y : List Pk_a) (x : Pk_a) : Prop :=
  ∃ P A C R, y = P ++ (A ++ (x :: (C ++ R))) ∧ P.length = a ∧ j = a + A.length ∧ Asc_a (A ++ C) ∧ (∀ z ∈ C, x.t < z.t) ∧ L' = P ++ (ins_a x (A ++ C) ++ R) ∧ y.length = n
theorem InsL_a.bounds {L' y : List Pk_a} {a n j : Nat} {x : Pk_a} (h : InsL_a L' a n j y x) : a ≤ j ∧ j < n ∧ y.length = n ∧ y[j]? = some x := by
  obtain ⟨P, A, C, R, rfl, hP, hj, h1, h2, h3, hn⟩ := h
  refine ⟨by omega, ?_, hn, ?_⟩
  · simp only [List.length_append, List.length_cons] at hn; omega
  · rw [List.getElem?_append_right (by omega), List.getElem?_append_right (by omega), show j - P.length - A.length = 0 by omega]; rfl
theorem InsL_a.stop {L' y : List Pk_a} {a n j : Nat} {x : Pk_a} (h : InsL_a L' a n j y x) (hs : j = a ∨ ∃ z, y[j - 1]? = some z ∧ ¬ x.t < z.t) : y = L' := by
  obtain ⟨P, A, C, R, rfl, hP, hj, h1, h2, rfl, hn⟩ := h
  have : ∀ z ∈ A, z.t ≤ x.t := by
    rcases hs with hs | ⟨z, hz, hx⟩
    · intro z hz
      have : A = [] := List.length_eq_zero_iff.1 (by omega)
      rw [this] at hz; cases hz
    · intro u hu
      rcases List.eq_nil_or_concat A with hA | ⟨A', z', hA⟩
      · rw [hA] at hu; cases hu
      · rw [List.concat_eq_append] at hA
        subst hA
        have e : (P ++ (A' ++ [z'] ++ (x :: (C ++ R))))[j - 1]? = some z' := by
          rw [List.length_append] at hj
          simp only [List.length_singleton] at hj
          rw [List.getElem?_append_right (by omega), List.append_assoc, List.getElem?_append_right (by omega), show j - 1 - P.length - A'.length = 0 by omega]; rfl
        rw [e] at hz
        have ez : z' = z := Option.some.inj hz
        subst ez
        have := (asc_append_a.1 (asc_append_a.1 h1).1).2.2
        rcases List.mem_append.1 hu with k | k
        · have := this u k z' (by simp); omega
        · rw [List.mem_singleton.1 k]; omega
  rw [ins_mid_a x A C this h2]
  simp
theorem InsL_a.step {L' y : List Pk_a} {a n j : Nat} {x z : Pk_a} (h : InsL_a L' a n (j + 1) y x) (ha : a ≤ j) (hz : y[j]? = some z) (hx : x.t < z.t) : InsL_a L' a n j ((y.set (j + 1) z).set j x) x := by
  obtain ⟨P, A, C, R, rfl, hP, hj, h1, h2, rfl, hn⟩ := h
  rcases List.eq_nil_or_concat A with hA | ⟨A', z', hA⟩
  · subst hA; simp at hj; omega
  · rw [List.concat_eq_append] at hA
    subst hA
    rw [List.length_append] at hj
    simp only [List.length_singleton] at hj
    have e : (P ++ (A' ++ [z'] ++ (x :: (C ++ R))))[j]? = some z' := by
      rw [List.getElem?_append_right (by omega), List.append_assoc, List.getElem?_append_right (by omega), show j - P.length - A'.length = 0 by omega]; rfl
    rw [e] at hz
    have ez : z' = z := Option.some.inj hz
    subst ez
    refine ⟨P, A', z' :: C, R, ?_, hP, by omega, by simpa using h1, fun u hu => ?_, by simp, by simpa using hn⟩
    · have eP : j + 1 = (P ++ (A' ++ [z'])).length := by simp; omega
      have eQ : j = (P ++ A').length := by simp; omega
      rw [show P ++ (A' ++ [z'] ++ (x :: (C ++ R))) = (P ++ (A' ++ [z'])) ++ (x :: (C ++ R)) by simp]
      rw [List.set_append_right _ _ (by omega), eP, Nat.sub_self]
      show (P ++ (A' ++ [z']) ++ z' :: (C ++ R)).set j x = _
      rw [show P ++ (A' ++ [z']) ++ z' :: (C ++ R) = (P ++ A') ++ (z' :: z' :: (C ++ R)) by simp]
      rw [List.set_append_right _ _ (by omega), eQ, Nat.sub_self]
      simp
    · rcases List.mem_cons.1 hu with k | k
      · rw [k]; exact hx
      · exact h2 u k

/-- t packets behind the place a are in order. -/
def InsO_a (L' : List Pk_a) (a b n t : Nat) (y : List Pk_a) : Prop :=
  ∃ P X Q, P.length = a ∧ a + X.length = b ∧ y = P ++ (isort_a (X.take t) ++ (X.drop t ++ Q)) ∧ L' = P ++ (isort_a X ++ Q) ∧ y.length = n ∧ 1 ≤ t
theorem InsO_a.start {P X Q y : List Pk_a} (hy : y = P ++ (X ++ Q)) : InsO_a (P ++ (isort_a X ++ Q)) P.length (P.length + X.length) y.length 1 y := by
  refine ⟨P, X, Q, rfl, rfl, ?_, rfl, rfl, Nat.le_refl _⟩
  rw [hy]
  cases X with
  | nil => rfl
  | cons x X => rw [isort_id_a _ (by simpa using asc_one_a x)]; rfl
theorem InsO_a.next {L' y : List Pk_a} {a b n t : Nat} (h : InsO_a L' a b n t y) (ht : a + t < b) : ∃ x L1, InsL_a L1 a n (a + t) y x ∧ InsO_a L' a b n (t + 1) L1 := by
  obtain ⟨P, X, Q, hP, hX, rfl, rfl, hn, h1⟩ := h
  have hl : t < X.length := by omega
  have hd : X.drop t = X[t] :: X.drop (t + 1) := List.drop_eq_getElem_cons hl
  have hk : X.take (t + 1) = X.take t ++ [X[t]] := by rw [List.take_add_one, List.getElem?_eq_getElem hl]; rfl
  have hlt : (isort_a (X.take t)).length = t := by rw [isort_length_a, List.length_take]; omega
  refine ⟨X[t], P ++ (ins_a X[t] (isort_a (X.take t)) ++ (X.drop (t + 1) ++ Q)), ⟨P, isort_a (X.take t), [], X.drop (t + 1) ++ Q, by rw [hd]; rfl, hP, by omega, by simpa using isort_asc_a _, by simp, by simp, hn⟩, P, X, Q, hP, hX, ?_, rfl, ?_, by omega⟩
  · rw [hk, isort_snoc_a]
  · rw [hd] at hn
    simp only [List.length_append, List.length_cons, ins_length_a] at hn ⊢; omega
theorem InsO_a.fin {L' y : List Pk_a} {a b n t : Nat} (h : InsO_a L' a b n t y) (ht : ¬ a + t < b) : y = L' := by
  obtain ⟨P, X, Q, hP, hX, rfl, rfl, hn, h1⟩ := h
  rw [List.take_of_length_le (by omega), List.drop_of_length_le (by omega)]; rfl
theorem InsO_a.len {L' y : List Pk_a} {a b n t : Nat} (h : InsO_a L' a b n t y) : y.length = n ∧ b ≤ n := by
  obtain ⟨P, X, Q, hP, hX, rfl, rfl, hn, h1⟩ := h
  refine ⟨hn, ?_⟩
  have e : (isort_a (X.take t)).length + (X.drop t).length = X.length := by rw [isort_length_a, ← List.length_append, List.take_append_drop]
  simp only [List.length_append] at hn
  omega

/-- x is on its way to the right, behind all of C. -/
def ShR_a (L' : List Pk_a) (n i k : Nat) (y : List Pk_a) (x : Pk_a) : Prop := ∃ P C R, y = P ++ (x :: (C ++ R)) ∧ P.length = k ∧ k + C.length + 1 = i ∧ L' = P ++ (C ++ x :: R) ∧ y.length = n
theorem ShR_a.bounds {L' y : List Pk_a} {n i k : Nat} {x : Pk_a} (h : ShR_a L' n i k y x) : k + 1 ≤ i ∧ i ≤ n ∧ y.length = n ∧ y[k]? = some x := by
  obtain ⟨P, C, R, rfl, hP, hk, h1, hn⟩ := h
  refine ⟨by omega, ?_, hn, ?_⟩
  · simp only [List.length_append, List.length_cons] at hn; omega
  · rw [List.getElem?_append_right (by omega), show k - P.length = 0 by omega]; rfl
theorem ShR_a.stop {L' y : List Pk_a} {n i k : Nat} {x : Pk_a} (h : ShR_a L' n i k y x) (hs : ¬ k + 1 < i) : y = L' := by
  obtain ⟨P, C, R, rfl, hP, hk, rfl, hn⟩ := h
  have : C = [] := List.length_eq_zero_iff.1 (by omega)
  subst this; rfl
theorem ShR_a.step {L' y : List Pk_a} {n i k : Nat} {x z : Pk_a} (h : ShR_a L' n i k y x) (hs : k + 1 < i) (hz : y[k + 1]? = some z) : ShR_a L' n i (k + 1) ((y.set k z).set (k + 1) x) x := by
  obtain ⟨P, C, R, rfl, hP, hk, rfl, hn⟩ := h
  cases C with
  | nil => simp at hk; omega
  | cons c C =>
    rw [List.getElem?_append_right (by omega), show k + 1 - P.length = 1 by omega] at hz
    have ez : c = z := Option.some.inj hz
    subst ez
    refine ⟨P ++ [c], C, R, ?_, by simp; omega, by simp at hk; omega, by simp, by simpa using hn⟩
    rw [List.set_append_right _ _ (by omega), show k - P.length = 0 by omega]
    show (P ++ (c :: (c :: C ++ R))).set (k + 1) x = _
    rw [List.set_append_right _ _ (by omega), show k + 1 - P.length = 1 by omega]
    simp

/-- x is on its way to the left, ahead of all of C. -/
def ShL_a (L' : List Pk_a) (n i k : Nat) (y : List Pk_a) (x : Pk_a) : Prop := ∃ P C R, y = P ++ (C ++ (x :: R)) ∧ P.length = i ∧ i + C.length = k ∧ L' = P ++ (x :: (C ++ R)) ∧ y.length = n
theorem ShL_a.bounds {L' y : List Pk_a} {n i k : Nat} {x : Pk_a} (h : ShL_a L' n i k y x) : i ≤ k ∧ k < n ∧ y.length = n ∧ y[k]? = some x := by
  obtain ⟨P, C, R, rfl, hP, hk, h1, hn⟩ := h
  refine ⟨by omega, ?_, hn, ?_⟩
  · simp only [List.length_append, List.length_cons] at hn; omega
  · rw [List.getElem?_append_right (by omega), List.getElem?_append_right (by omega), show k - P.length - C.length = 0 by omega]; rfl
theorem ShL_a.stop {L' y : List Pk_a} {n i k : Nat} {x : Pk_a} (h : ShL_a L' n i k y x) (hs : ¬ i < k) : y = L' := by
  obtain ⟨P, C, R, rfl, hP, hk, rfl, hn⟩ := h
  have : C = [] := List.length_eq_zero_iff.1 (by omega)
  subst this; rfl
theorem ShL_a.step {L' y : List Pk_a} {n i k : Nat} {x z : Pk_a} (h : ShL_a L' n i (k + 1) y x) (hs : i < k + 1) (hz : y[k]? = some z) : ShL_a L' n i k ((y.set (k + 1) z).set k x) x := by
  obtain ⟨P, C, R, rfl, hP, hk, rfl, hn⟩ := h
  rcases List.eq_nil_or_concat C with hC | ⟨C', c, hC⟩
  · subst hC; simp at hk; omega
  · rw [List.concat_eq_append] at hC
    subst hC
    simp only [List.length_append, List.length_singleton] at hk
    have e : (P ++ (C' ++ [c] ++ (x :: R)))[k]? = some c := by
      rw [List.getElem?_append_right (by omega), List.append_assoc, List.getElem?_append_right (by omega), show k - P.length - C'.length = 0 by omega]; rfl
    rw [e] at hz
    have ez : c = z := Option.some.inj hz
    subst ez
    refine ⟨P, C', c :: R, ?_, hP, by omega, by simp, by simpa using hn⟩
    have eP : k + 1 = (P ++ (C' ++ [c])).length := by simp; omega
    have eQ : k = (P ++ C').length := by simp; omega
    rw [show P ++ (C' ++ [c] ++ (x :: R)) = (P ++ (C' ++ [c])) ++ (x :: R) by simp]
    rw [List.set_append_right _ _ (by omega), eP, Nat.sub_self]
    show (P ++ (C' ++ [c]) ++ c :: R).set k x = _
    rw [show P ++ (C' ++ [c]) ++ c :: R = (P ++ C') ++ (c :: c :: R) by simp]
    rw [List.set_append_right _ _ (by omega), eQ, Nat.sub_self]
    simp

/-- Two runs in order, which are to be merged. -/
def Mer_a (L' : List Pk_a) (a m b n : Nat) (y : List Pk_a) : Prop :=
  ∃ P A C Q, y = P ++ (A ++ (C ++ Q)) ∧ P.length = a ∧ a + A.length = m ∧ m + C.length = b ∧ Asc_a A ∧ Asc_a C ∧ L' = P ++ (into_a A C ++ Q) ∧ y.length = n
theorem Mer_a.bounds {L' y : List Pk_a} {a m b n : Nat} (h : Mer_a L' a m b n y) : a ≤ m ∧ m ≤ b ∧ b ≤ n ∧ y.length = n := by
  obtain ⟨P, A, C, Q, rfl, hP, hA, hC, h1, h2, h3, hn⟩ := h
  have := hn
  simp only [List.length_append] at this
  exact ⟨by omega, by omega, by omega, hn⟩
theorem asc_tm_a {A : List Pk_a} (h : Asc_a A) {i j : Nat} (hij : i ≤ j) (hj : j < A.length) : (A[i]'(by omega)).t ≤ (A[j]).t := by
  rcases Nat.lt_or_ge i j with c | c
  · exact (List.pairwise_iff_getElem.1 h) i j (by omega) hj c
  · have : i = j := by omega
    subst this; exact Int.le_refl _
theorem Mer_a.ascL {L' y : List Pk_a} {a m b n : Nat} (h : Mer_a L' a m b n y) {i j : Nat} (hi : a ≤ i) (hij : i ≤ j) (hj : j < m) : tm_a y i ≤ tm_a y j := by
  obtain ⟨P, A, C, Q, rfl, hP, hA, hC, h1, h2, h3, hn⟩ := h
  have e : ∀ k, a ≤ k → (hk : k < m) → (P ++ (A ++ (C ++ Q)))[k]? = some (A[k - a]'(by omega)) := fun k h1 h2 => by
    rw [List.getElem?_append_right (by omega), List.getElem?_append_left (by omega), List.getElem?_eq_getElem (by omega)]
    congr 2; omega
  rw [tm_of_a (e i hi (by omega)), tm_of_a (e j (by omega) hj)]
  exact asc_tm_a h1 (by omega) (by omega)
theorem Mer_a.ascR {L' y : List Pk_a} {a m b n : Nat} (h : Mer_a L' a m b n y) {i j : Nat} (hi : m ≤ i) (hij : i ≤ j) (hj : j < b) : tm_a y i ≤ tm_a y j := by
  obtain ⟨P, A, C, Q, rfl, hP, hA, hC, h1, h2, h3, hn⟩ := h
  have e : ∀ k, m ≤ k → (hk : k < b) → (P ++ (A ++ (C ++ Q)))[k]? = some (C[k - m]'(by omega)) := fun k h1 h2 => by
    rw [List.getElem?_append_right (by omega), List.getElem?_append_right (by omega), List.getElem?_append_left (by omega), List.getElem?_eq_getElem (by omega)]
    congr 2; omega
  rw [tm_of_a (e i hi (by omega)), tm_of_a (e j (by omega) hj)]
  exact asc_tm_a h2 (by omega) (by omega)
theorem Mer_a.one {L' y : List Pk_a} {a m b n i : Nat} (h : Mer_a L' a m b n y) (hm : m = a + 1) (hi : m ≤ i) (hib : i ≤ b) (h1 : ∀ k, m ≤ k → k < i → tm_a y k < tm_a y a) (h2 : ∀ k, i ≤ k → k < b → ¬ tm_a y k < tm_a y a) : ∃ x, ShR_a L' n i a y x := by
  obtain ⟨P, A, C, Q, rfl, hP, hA, hC, hs, hc, rfl, hn⟩ := h
  obtain ⟨x, rfl⟩ : ∃ x, A = [x] := List.length_eq_one_iff.1 (by omega)
  have ea : tm_a (P ++ ([x] ++ (C ++ Q))) a = x.t := tm_of_a (by rw [List.getElem?_append_right (by omega), show a - P.length = 0 by omega]; rfl)
  have ek : ∀ k, (h0 : m ≤ k) → (hk : k < b) → tm_a (P ++ ([x] ++ (C ++ Q))) k = (C[k - m]'(by omega)).t := fun k h1 h2 => tm_of_a (by
    rw [List.getElem?_append_right (by omega), List.getElem?_append_right (by simp; omega), List.getElem?_append_left (by simp; omega), List.getElem?_eq_getElem (by simp; omega)]
    congr 2; simp; omega)
  have e : C.take (i - m) ++ C.drop (i - m) = C := List.take_append_drop _ _
  have l1 : (C.take (i - m)).length = i - m := by rw [List.length_take]; omega
  refine ⟨x, P, C.take (i - m), C.drop (i - m) ++ Q, ?_, hP, by omega, ?_, hn⟩
  · rw [← List.append_assoc (C.take (i - m)), e]; rfl
  · have := into_one_a x (C.take (i - m)) (C.drop (i - m)) (fun y hy => ?_) (fun y hy => ?_) (by rw [e]; exact hc)
    · rw [e] at this
      rw [this]; simp
    · obtain ⟨q, hq, rfl⟩ := List.getElem_of_mem hy
      rw [l1] at hq
      have := h1 (m + q) (by omega) (by omega)
      rw [ea, ek (m + q) (by omega) (by omega)] at this
      rw [List.getElem_take]
      simpa using this
    · obtain ⟨q, hq, rfl⟩ := List.getElem_of_mem hy
      rw [List.length_drop] at hq
      have := h2 (i + q) (by omega) (by omega)
      rw [ea, ek (i + q) (by omega) (by omega)] at this
      rw [List.getElem_drop]
      have e2 : i - m + q = i + q - m := by omega
      simp only [e2]
      omega
theorem Mer_a.two {L' y : List Pk_a} {a m b n i : Nat} (h : Mer_a L' a m b n y) (hm : b = m + 1) (hi : a ≤ i) (him : i ≤ m) (h1 : ∀ k, a ≤ k → k < i → ¬ tm_a y m < tm_a y k) (h2 : ∀ k, i ≤ k → k < m → tm_a y m < tm_a y k) : ∃ x, ShL_a L' n i m y x := by
  obtain ⟨P, A, C, Q, rfl, hP, hA, hC, hs, hc, rfl, hn⟩ := h
  obtain ⟨x, rfl⟩ : ∃ x, C = [x] := List.length_eq_one_iff.1 (by omega)
  have ea : tm_a (P ++ (A ++ ([x] ++ Q))) m = x.t := tm_of_a (by rw [List.getElem?_append_right (by omega), List.getElem?_append_right (by omega), show m - P.length - A.length = 0 by omega]; rfl)
  have ek : ∀ k, (h0 : a ≤ k) → (hk : k < m) → tm_a (P ++ (A ++ ([x] ++ Q))) k = (A[k - a]'(by omega)).t := fun k h1 h2 => tm_of_a (by
    rw [List.getElem?_append_right (by omega), List.getElem?_append_left (by omega), List.getElem?_eq_getElem (by omega)]
    congr 2; omega)
  have e : A.take (i - a) ++ A.drop (i - a) = A := List.take_append_drop _ _
  have l1 : (A.take (i - a)).length = i - a := by rw [List.length_take]; omega
  have l2 : (A.drop (i - a)).length = m - i := by rw [List.length_drop]; omega
  refine ⟨x, P ++ A.take (i - a), A.drop (i - a), Q, ?_, by rw [List.length_append]; omega, by omega, ?_, hn⟩
  · rw [List.append_assoc, ← List.append_assoc (A.take (i - a)), e]; rfl
  · have := ins_mid_a x (A.take (i - a)) (A.drop (i - a)) (fun y hy => ?_) (fun y hy => ?_)
    · rw [e] at this
      show P ++ (ins_a x A ++ Q) = _
      rw [this]; simp
    · obtain ⟨q, hq, rfl⟩ := List.getElem_of_mem hy
      rw [l1] at hq
      have := h1 (a + q) (by omega) (by omega)
      rw [ea, ek (a + q) (by omega) (by omega)] at this
      rw [List.getElem_take]
      have e2 : a + q - a = q := by omega
      simp only [e2] at this
      omega
    · obtain ⟨q, hq, rfl⟩ := List.getElem_of_mem hy
      rw [l2] at hq
      have := h2 (i + q) (by omega) (by omega)
      rw [ea, ek (i + q) (by omega) (by omega)] at this
      rw [List.getElem_drop]
      have e2 : i - a + q = i + q - a := by omega
      simp only [e2]
      omega
end Go.Proofs.YtkienpbmoilheaaGreat

namespace Go.Proofs.YtkienpbmoilheaaGreat
set_option linter.unusedSimpArgs false
set_option linter.unusedVariables false

/-- Two lists in ascending order that have of each time the same are equal. -/
theorem asc_ext_a : ∀ (l y : List Pk_a), Asc_a l → Asc_a y → (∀ τ, l.filter (fun q => q.t == τ) = y.filter (fun q => q.t == τ)) → l = y
  | [], [], _, _, _ => rfl
  | [], y :: s, _, _, h => by have := h y.t; rw [List.filter_cons, if_pos (by simp)] at this; cases this
  | x :: r, [], _, _, h => by have := h x.t; rw [List.filter_cons, if_pos (by simp)] at this; cases this
  | x :: r, y :: s, hl, hy, h => by
    have hl' := asc_cons_a.1 hl
    have hy' := asc_cons_a.1 hy
    have e : x.t = y.t := by
      rcases Int.lt_trichotomy x.t y.t with c | c | c
      · exfalso
        have h1 := h x.t
        rw [List.filter_cons, if_pos (by simp), show (y :: s).filter (fun q => q.t == x.t) = [] from List.filter_eq_nil_iff.2 (fun z hz => by
          rcases List.mem_cons.1 hz with k | k
          · rw [k]; simp; omega
          · have := hy'.1 z k; simp; omega)] at h1
        cases h1
      · exact c
      · exfalso
        have h1 := h y.t
        rw [List.filter_cons (x := y), if_pos (by simp), show (x :: r).filter (fun q => q.t == y.t) = [] from List.filter_eq_nil_iff.2 (fun z hz => by
          rcases List.mem_cons.1 hz with k | k
          · rw [k]; simp; omega
          · have := hl'.1 z k; simp; omega)] at h1
        cases h1
    have h1 := h x.t
    rw [List.filter_cons, if_pos (by simp), List.filter_cons, if_pos (by simp [e])] at h1
    injection h1 with h2 h3
    subst h2
    congr 1
    refine asc_ext_a r s hl'.2 hy'.2 (fun τ => ?_)
    have h4 := h τ
    rw [List.filter_cons, List.filter_cons] at h4
    split at h4
    · injection h4
    · exact h4

/-- The packet at the place i as it is at the next line, if its last byte is sent. -/
def arrAt (p : List Pk) (d : List Int) (i : Nat) : Option Pk_a := if d.getD i 0 = -1 then none else some ⟨(p.getD i default).f, d.getD i 0 + 1, (p.getD i default).s, i⟩
/-- The first k of them. -/
def arrL (p : List Pk) (d : List Int) (k : Nat) : List Pk_a := (List.range k).filterMap (arrAt p d)
theorem arrL_succ (p : List Pk) (d : List Int) (k : Nat) : arrL p d (k + 1) = arrL p d k ++ (arrAt p d k).toList := by
  unfold arrL
  rw [List.range_succ, List.filterMap_append]
  congr 1
theorem arrL_len (p : List Pk) (d : List Int) (k : Nat) : (arrL p d k).length ≤ k := by
  have := List.length_filterMap_le (arrAt p d) (List.range k)
  rwa [List.length_range] at this
theorem mem_arrL {p : List Pk} {d : List Int} {k : Nat} {x : Pk_a} : x ∈ arrL p d k ↔ ∃ i, i < k ∧ arrAt p d i = some x := by
  unfold arrL
  rw [List.mem_filterMap]
  constructor
  · rintro ⟨i, h1, h2⟩; exact ⟨i, List.mem_range.1 h1, h2⟩
  · rintro ⟨i, h1, h2⟩; exact ⟨i, List.mem_range.2 h1, h2⟩
/-- What arrives in the tick behind t, of the first k. -/
def tickL (p : List Pk) (d : List Int) (t : Nat) (k : Nat) : List Pk_a := (arrL p d k).filter (fun q => q.t == (t : Int) + 1)
theorem tickL_succ (p : List Pk) (d : List Int) (t k : Nat) : tickL p d t (k + 1) = tickL p d t k ++ if d.getD k 0 = (t : Int) then [⟨(p.getD k default).f, (t : Int) + 1, (p.getD k default).s, k⟩] else [] := by
  unfold tickL
  rw [arrL_succ, List.filter_append]
  congr 1
  unfold arrAt
  by_cases h : d.getD k 0 = -1
  · rw [if_pos h, if_neg (by omega)]; rfl
  · rw [if_neg h]
    by_cases h2 : d.getD k 0 = (t : Int)
    · rw [if_pos h2, h2]
      show List.filter _ [_] = _
      rw [List.filter_cons, if_pos (by simp)]; rfl
    · rw [if_neg h2]
      show List.filter _ [_] = _
      rw [List.filter_cons, if_neg (show ¬ ((d.getD k 0 + 1 == (t : Int) + 1) = true) from by rw [beq_iff_eq]; omega)]; rfl
/-- The document's list, tick by tick. -/
def fwdL (p : List Pk) (d : List Int) (n : Nat) : Nat → List Pk_a
  | 0 => []
  | t + 1 => fwdL p d n t ++ tickL p d t n
theorem fwdL_bd (p : List Pk) (d : List Int) (n : Nat) : ∀ T, ∀ x ∈ fwdL p d n T, 1 ≤ x.t ∧ x.t ≤ (T : Int)
  | 0, x, h => by cases h
  | T + 1, x, h => by
    unfold fwdL at h
    rcases List.mem_append.1 h with h | h
    · have := fwdL_bd p d n T x h; omega
    · have := (List.mem_filter.1 h).2
      simp only [beq_iff_eq] at this; omega
theorem fwdL_asc (p : List Pk) (d : List Int) (n : Nat) : ∀ T, Asc_a (fwdL p d n T)
  | 0 => asc_nil_a
  | T + 1 => by
    unfold fwdL
    refine asc_append_a.2 ⟨fwdL_asc p d n T, ?_, fun x hx y hy => ?_⟩
    · refine List.Pairwise.imp_of_mem (R := fun _ _ => True) (fun {a b} ha hb _ => ?_) (List.pairwise_of_forall (fun _ _ => trivial))
      have h1 := (List.mem_filter.1 ha).2
      have h2 := (List.mem_filter.1 hb).2
      simp only [beq_iff_eq] at h1 h2; omega
    · have h1 := fwdL_bd p d n T x hx
      have h2 := (List.mem_filter.1 hy).2
      simp only [beq_iff_eq] at h2; omega
theorem fwdL_filter (p : List Pk) (d : List Int) (n : Nat) (τ : Int) : ∀ T : Nat, (fwdL p d n T).filter (fun q => q.t == τ) = if 1 ≤ τ ∧ τ ≤ (T : Int) then (arrL p d n).filter (fun q => q.t == τ) else []
  | 0 => by rw [if_neg (by omega)]; rfl
  | T + 1 => by
    unfold fwdL
    rw [List.filter_append, fwdL_filter p d n τ T]
    by_cases h : τ = (T : Int) + 1
    · subst h
      rw [if_neg (by omega), if_pos (by omega), List.nil_append]
      unfold tickL
      rw [List.filter_filter]
      congr 1
      funext q
      simp
    · have : (tickL p d T n).filter (fun q => q.t == τ) = [] := by
        refine List.filter_eq_nil_iff.2 (fun x hx => ?_)
        have := (List.mem_filter.1 hx).2
        simp only [beq_iff_eq] at this
        simp; omega
      rw [this, List.append_nil]
      by_cases h2 : 1 ≤ τ ∧ τ ≤ (T : Int)
      · rw [if_pos h2, if_pos (by omega)]
      · rw [if_neg h2, if_neg (by omega)]
/-- The stable order is the document's. -/
theorem fwd_sort {p : List Pk} {d : List Int} {n T : Nat} (h : ∀ x ∈ arrL p d n, 1 ≤ x.t ∧ x.t ≤ (T : Int)) : isort_a (arrL p d n) = fwdL p d n T := by
  refine asc_ext_a _ _ (isort_asc_a _) (fwdL_asc p d n T) (fun τ => ?_)
  rw [isort_filter_a, fwdL_filter]
  by_cases h2 : 1 ≤ τ ∧ τ ≤ (T : Int)
  · rw [if_pos h2]
  · rw [if_neg h2]
    refine List.filter_eq_nil_iff.2 (fun x hx => ?_)
    have := h x hx
    simp; omega

/-- The packet of an arrival. -/
def Pk_a.pk (x : Pk_a) : Pk := ⟨x.f, x.t, x.s⟩
/-- The error of done, if the trace is valid: 0, 7 order, 2 range. -/
def dgo : List Pk → List Int → Int
  | q :: r, x :: d => if x ≠ -1 ∧ (x < q.t ∨ 1999 < x) then 2 else dgo r d
  | _, _ => 0
def dcode (p : List Pk) (d : List Int) : Int := if vcode p = 0 then (if d.length = p.length then dgo p d else 7) else vcode p
theorem dgo_step {p : List Pk} {d : List Int} {k : Nat} {q : Pk} {x : Int} (hq : p[k]? = some q) (hx : d[k]? = some x) : dgo (p.drop k) (d.drop k) = if x ≠ -1 ∧ (x < q.t ∨ 1999 < x) then 2 else dgo (p.drop (k + 1)) (d.drop (k + 1)) := by
  obtain ⟨hk, he⟩ := List.getElem?_eq_some_iff.1 hq
  obtain ⟨hk2, he2⟩ := List.getElem?_eq_some_iff.1 hx
  rw [List.drop_eq_getElem_cons hk, he, List.drop_eq_getElem_cons hk2, he2]; rfl
theorem dgo_ok : ∀ (p : List Pk) (d : List Int), p.length = d.length → dgo p d = 0 → ∀ i, i < p.length → d.getD i 0 = -1 ∨ (p.getD i default).t ≤ d.getD i 0 ∧ d.getD i 0 ≤ 1999
  | [], d, _, _, i, hi => absurd hi (Nat.not_lt_zero _)
  | q :: r, [], hl, _, i, hi => by simp at hl
  | q :: r, x :: d, hl, h, i, hi => by
    unfold dgo at h
    split at h
    · cases h
    · rename_i hn
      cases i with
      | zero =>
        show x = -1 ∨ q.t ≤ x ∧ x ≤ 1999
        omega
      | succ i => exact dgo_ok r d (by simpa using hl) h i (by simpa using hi)
theorem arr_in {p : List Pk} {d : List Int} (hv : vcode p = 0) (h : dcode p d = 0) : d.length = p.length ∧ ∀ x ∈ arrL p d p.length, 1 ≤ x.t ∧ x.t ≤ ((2000 : Nat) : Int) := by
  unfold dcode at h
  rw [if_pos hv] at h
  by_cases hl : d.length = p.length
  · rw [if_pos hl] at h
    refine ⟨hl, fun x hx => ?_⟩
    obtain ⟨i, hi, ha⟩ := mem_arrL.1 hx
    have hd := dgo_ok p d hl.symm h i hi
    have hq : okP (p.getD i default) = true := by
      unfold vcode at hv
      split at hv
      · cases hv
      · refine (((vgo_ok 2 7 (by decide) (by decide) p 0).1 hv).1 _ ?_).1
        rw [List.getD_eq_getElem?_getD, List.getElem?_eq_getElem hi]
        exact List.getElem_mem hi
    have := (okP_iff _).1 hq
    unfold arrAt at ha
    split at ha
    · cases ha
    · cases ha
      show 1 ≤ d.getD i 0 + 1 ∧ d.getD i 0 + 1 ≤ ((2000 : Nat) : Int)
      omega
  · rw [if_neg hl] at h; cases h
end Go.Proofs.YtkienpbmoilheaaGreat

namespace Go.Proofs.YtkienpbmoilheaaGreat
set_option linter.unusedSimpArgs false
set_option linter.unusedVariables false

/-- The sizes of the first packets that have together at most b bytes, and s besides. -/
def whl (b : Int) (s : Int) : List Pk → Int
  | [] => s
  | q :: r => if b < s + q.s then s else whl b (s + q.s) r
/-- Whole. -/
def wholeA (l : List Pk) (fl b : Int) : Int := if vcode l = 0 then whl b 0 (sel fl l) else 0

/-- A step over a list: the packets before k are taken, s is their sum. -/
theorem whl_step {b s : Int} {l : List Pk} {k : Nat} {q : Pk} (hq : l[k]? = some q) : whl b s (l.drop k) = if b < s + q.s then s else whl b (s + q.s) (l.drop (k + 1)) := by
  obtain ⟨hk, he⟩ := List.getElem?_eq_some_iff.1 hq
  rw [List.drop_eq_getElem_cons hk, he]; rfl
theorem sel_bd {l : List Pk} {fl : Int} (h : vcode l = 0) : ∀ q ∈ sel fl l, okP q = true := fun q hq => by
  unfold vcode at h
  split at h
  · cases h
  · exact (((vgo_ok 2 7 (by decide) (by decide) l 0).1 h).1 q (List.mem_filter.1 hq).1).1

end Go.Proofs.YtkienpbmoilheaaGreat
