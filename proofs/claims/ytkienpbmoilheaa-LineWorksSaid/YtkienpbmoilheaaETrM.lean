/- The mathematics of traces: lists of packets, their stable order by insertion, merges, sums, what makes a trace valid. Nothing here speaks of the program. By the verifier's side. -/
import Derived.Sort.Defs
namespace Go.Proofs.Ytkienpbmoilheaa

/-- A packet: its flow, its time, its size. -/
structure Pk where
  f : Int
  t : Int
  s : Int
instance : Inhabited Pk := ⟨⟨0, 0, 0⟩⟩

/-- Ascending by the times. -/
def Asc (l : List Pk) : Prop := l.Pairwise fun x y => x.t ≤ y.t

/-- A packet behind all whose time is not greater. -/
def ins (x : Pk) : List Pk → List Pk
  | [] => [x]
  | y :: r => if x.t < y.t then x :: y :: r else y :: ins x r

/-- The packets of B, one after the other, into A. -/
def into (A B : List Pk) : List Pk := B.foldl (fun a x => ins x a) A

@[simp] theorem into_nil (A : List Pk) : into A [] = A := rfl
theorem asc_cons {x : Pk} {l : List Pk} : Asc (x :: l) ↔ (∀ y ∈ l, x.t ≤ y.t) ∧ Asc l := List.pairwise_cons
theorem asc_append {A B : List Pk} : Asc (A ++ B) ↔ Asc A ∧ Asc B ∧ ∀ x ∈ A, ∀ y ∈ B, x.t ≤ y.t := List.pairwise_append
theorem asc_nil : Asc [] := List.Pairwise.nil
theorem asc_one (x : Pk) : Asc [x] := List.pairwise_singleton _ _

/-- A sum over a list. -/
def sumG (g : Pk → Int) : List Pk → Int
  | [] => 0
  | x :: r => g x + sumG g r
theorem sumG_append (g : Pk → Int) (B : List Pk) : ∀ A : List Pk, sumG g (A ++ B) = sumG g A + sumG g B
  | [] => by simp [sumG]
  | a :: A => by show g a + sumG g (A ++ B) = g a + sumG g A + sumG g B; rw [sumG_append g B A]; omega
theorem sumG_take (g : Pk → Int) (l : List Pk) (i : Nat) (h : i < l.length) : sumG g (l.take (i + 1)) = sumG g (l.take i) + g (l[i]!) := by
  rw [List.take_add_one, sumG_append, getElem!_pos l i h, List.getElem?_eq_getElem h]
  simp [sumG]
theorem sumG_mono (g k : Pk → Int) : ∀ l : List Pk, (∀ x ∈ l, g x ≤ k x) → sumG g l ≤ sumG k l
  | [], _ => Int.le_refl _
  | x :: r, h => by
    have h1 := h x (by simp)
    have h2 := sumG_mono g k r (fun y hy => h y (by simp [hy]))
    show g x + _ ≤ k x + _; omega
theorem sumG_zero : ∀ l : List Pk, sumG (fun _ => 0) l = 0
  | [] => rfl
  | _ :: r => by show 0 + _ = _; rw [sumG_zero r]; rfl
theorem sumG_bound (g : Pk → Int) (m : Int) : ∀ l : List Pk, (∀ x ∈ l, g x ≤ m) → sumG g l ≤ (l.length : Int) * m
  | [], _ => by simp [sumG]
  | x :: r, h => by
    have h1 := h x (by simp)
    have h2 := sumG_bound g m r (fun y hy => h y (by simp [hy]))
    show g x + _ ≤ ((r.length + 1 : Nat) : Int) * m
    have : ((r.length + 1 : Nat) : Int) * m = (r.length : Int) * m + m := by
      rw [Int.natCast_add, Int.add_mul]; simp
    omega

/-- Whether a packet is one of a flow (-1: of all). -/
def ofFlow (fl : Int) (q : Pk) : Bool := decide (-1 ≤ fl) && (decide (fl = -1) || decide (q.f = fl))
/-- The packets of a flow. -/
def sel (fl : Int) (l : List Pk) : List Pk := l.filter (ofFlow fl)
/-- A packet within its ranges. -/
def okP (q : Pk) : Bool := decide (0 ≤ q.f) && decide (q.f ≤ 59) && decide (0 ≤ q.t) && decide (q.t ≤ 2000) && decide (1 ≤ q.s) && decide (q.s ≤ 1500)
/-- The first fault of packets behind one of the time p: 0 is none, er a range, eo the order. -/
def vgo (er eo : Int) (p : Int) : List Pk → Int
  | [] => 0
  | x :: r => if okP x = true then (if x.t < p then eo else vgo er eo x.t r) else er

theorem okP_iff (q : Pk) : okP q = true ↔ (0 ≤ q.f ∧ q.f ≤ 59 ∧ 0 ≤ q.t ∧ q.t ≤ 2000 ∧ 1 ≤ q.s ∧ q.s ≤ 1500) := by
  unfold okP; simp only [Bool.and_eq_true, decide_eq_true_eq]; omega

theorem vgo_ok (er eo : Int) (h1 : er ≠ 0) (h2 : eo ≠ 0) : ∀ (l : List Pk) (p : Int), vgo er eo p l = 0 ↔ (∀ q ∈ l, okP q = true ∧ p ≤ q.t) ∧ Asc l
  | [], p => by simp [vgo, asc_nil]
  | x :: r, p => by
    unfold vgo
    by_cases c : okP x = true
    · rw [if_pos c]
      by_cases d : x.t < p
      · rw [if_pos d]
        constructor
        · intro h; exact absurd h h2
        · intro h; have := (h.1 x (by simp)).2; omega
      · rw [if_neg d, vgo_ok er eo h1 h2 r x.t, asc_cons]
        constructor
        · rintro ⟨ha, hb⟩
          refine ⟨fun q hq => ?_, fun y hy => (ha y hy).2, hb⟩
          rcases List.mem_cons.1 hq with e | e
          · rw [e]; exact ⟨c, by omega⟩
          · exact ⟨(ha q e).1, by have := (ha q e).2; omega⟩
        · rintro ⟨ha, hb, hc⟩
          exact ⟨fun q hq => ⟨(ha q (by simp [hq])).1, hb q hq⟩, hc⟩
    · rw [if_neg c]
      constructor
      · intro h; exact absurd h h1
      · intro h; exact absurd (h.1 x (by simp)).1 c

/-- The code of a list's first fault. -/
def vcode (l : List Pk) : Int := if 60 < l.length then 3 else vgo 2 7 0 l
end Go.Proofs.Ytkienpbmoilheaa
