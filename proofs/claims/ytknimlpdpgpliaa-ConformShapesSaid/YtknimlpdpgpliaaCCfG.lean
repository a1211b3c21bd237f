/- The mathematics of Greedy: what it sends, and that no other trace of packets of its size has more. Nothing here speaks of the program. By the verifier's side. -/
import Derived.Test.YtknimlpdpgpliaaCCfM
namespace Go.Proofs.Ytknimlpdpgpliaa
set_option linter.unusedSimpArgs false
set_option linter.unusedVariables false

/-- In one tick: as many as may go, at most k. -/
def gIn (E : Nat → Int) (fl t c : Int) : Nat → List Pk → List Pk
  | 0, acc => acc
  | k + 1, acc => if (exB E (t + 1) 0 ((⟨fl, t, c⟩ : Pk) :: acc)).isNone = true then gIn E fl t c k (⟨fl, t, c⟩ :: acc) else acc
/-- After so many ticks, the last one first. -/
def gUp (E : Nat → Int) (fl c : Int) : Nat → List Pk
  | 0 => []
  | n + 1 => gIn E fl n c (60 - (gUp E fl c n).length) (gUp E fl c n)

theorem gIn_ind {E : Nat → Int} {fl t c : Int} (R : List Pk → Prop) (hR : ∀ acc, R acc → (exB E (t + 1) 0 ((⟨fl, t, c⟩ : Pk) :: acc)).isNone = true → R (⟨fl, t, c⟩ :: acc)) : ∀ (k : Nat) (acc : List Pk), R acc → R (gIn E fl t c k acc)
  | 0, acc, h => h
  | k + 1, acc, h => by
    unfold gIn
    split
    · rename_i d
      exact gIn_ind R hR k _ (hR acc h d)
    · exact h
theorem gIn_len {E : Nat → Int} {fl t c : Int} : ∀ (k : Nat) (acc : List Pk), (gIn E fl t c k acc).length ≤ acc.length + k
  | 0, acc => Nat.le_refl _
  | k + 1, acc => by
    unfold gIn
    split
    · have := gIn_len (E := E) (fl := fl) (t := t) (c := c) k (⟨fl, t, c⟩ :: acc)
      simp only [List.length_cons] at this; omega
    · omega
theorem gUp_len (E : Nat → Int) (fl c : Int) : ∀ n, (gUp E fl c n).length ≤ 60
  | 0 => by show 0 ≤ 60; omega
  | n + 1 => by
    have h1 := gUp_len E fl c n
    have h2 := gIn_len (E := E) (fl := fl) (t := n) (c := c) (60 - (gUp E fl c n).length) (gUp E fl c n)
    show (gIn E fl n c (60 - (gUp E fl c n).length) (gUp E fl c n)).length ≤ 60
    omega
/-- What is sent: packets of the flow and the size, none later than its tick. -/
structure Sent (fl c : Int) (n : Nat) (l : List Pk) : Prop where
  mem : ∀ q ∈ l, q.f = fl ∧ q.s = c ∧ 0 ≤ q.t ∧ q.t < n
  desc : l.Pairwise fun x y => y.t ≤ x.t
theorem gUp_sent (E : Nat → Int) (fl c : Int) : ∀ n, Sent fl c n (gUp E fl c n)
  | 0 => ⟨fun q h => (by cases h), List.Pairwise.nil⟩
  | n + 1 => by
    have ih := gUp_sent E fl c n
    refine gIn_ind (fun a => Sent fl c (n + 1) a) (fun a ha _ => ⟨fun q hq => ?_, List.pairwise_cons.2 ⟨fun y hy => ?_, ha.desc⟩⟩) _ _ ⟨fun q hq => ?_, ih.desc⟩
    · rcases List.mem_cons.1 hq with e | e
      · subst e; exact ⟨rfl, rfl, by show (0 : Int) ≤ n; omega, by show (n : Int) < ((n + 1 : Nat) : Int); omega⟩
      · exact ha.mem q e
    · have := ha.mem y hy
      show y.t ≤ (n : Int); omega
    · have := ih.mem q hq; exact ⟨this.1, this.2.1, this.2.2.1, by omega⟩
end Go.Proofs.Ytknimlpdpgpliaa
