/- Contracts: curve.Normal, the document's Same. By the verifier's side. -/
import Derived.Test.YtgdkjmmlgnmidaaCurF
namespace Go.Proofs.Ytgdkjmmlgnmidaa
open Go.RowKit
set_option linter.unusedSimpArgs false

/-- A curve and an error's number are handed back. -/
def GivesNorm2 (zs : List Int) (p : Nat) (inc : Int) (w : World) (e : Ending) (w' : World) : Prop :=
  ∃ a n cap zs' p' inc', e = .returned (.tuple #[curV a n cap (p' : Nat) inc', .int .i64 0]) ∧ Below w.heap.size w w' ∧ RowZ w' a n cap zs' ∧ NormC zs p inc zs' p' inc' ∧ ∀ x, a = some x → w.heap.size ≤ x.block

theorem norm_post2 {w w2 : World} {b : Nat} (hb : Below w.heap.size w w2) (hwb : w.heap.size ≤ b) {a : Option Addr} {n cap : Nat} {zs' : List Int} (hr : RowZ w2 a n cap zs') (hlt : ∀ x, a = some x → b < x.block) (p' : Nat) (inc' : Int)
    {zs : List Int} {p : Nat} {inc : Int} (hn : NormC zs p inc zs' p' inc') :
    GivesNorm2 zs p inc w (.returned (.tuple #[curV a n cap p' inc', .int .i64 0])) (((w2.setCell ⟨b, 0, none⟩ (.slice a n cap)).setCell ⟨b, 1, none⟩ (.int .i64 p')).setCell ⟨b, 2, none⟩ (.int .i64 inc')) := by
  obtain ⟨a2, n2, cap2, zs2, p2, inc2, he, h1, h2, h3, h4⟩ := norm_post hb hwb hr hlt p' inc' hn
  simp only [Ending.returned.injEq, curV, Value.agg.injEq] at he
  simp at he
  obtain ⟨⟨rfl, rfl, rfl⟩, h5, rfl⟩ := he
  obtain rfl : p' = p2 := by omega
  exact ⟨a, n, cap, zs2, p', inc', rfl, h1, h2, h3, h4⟩

/-- Whether two curves are written in the same way. -/
def sameB (zs : List Int) (p inc : Int) (ys : List Int) (q jnc : Int) : Bool := decide (zs = ys) && decide (p = q) && decide (inc = jnc)

theorem sameB_len {zs ys : List Int} {p inc q jnc : Int} (h : ¬ zs.length = ys.length) : sameB zs p inc ys q jnc = false := by
  unfold sameB; rw [decide_eq_false (show ¬ zs = ys from fun e => h (by rw [e])), Bool.false_and, Bool.false_and]
theorem sameB_per {zs ys : List Int} {p inc q jnc : Int} (h : ¬ p = q) : sameB zs p inc ys q jnc = false := by
  unfold sameB; rw [decide_eq_false h, Bool.and_false, Bool.false_and]
theorem sameB_inc {zs ys : List Int} {p inc q jnc : Int} (h : ¬ inc = jnc) : sameB zs p inc ys q jnc = false := by
  unfold sameB; rw [decide_eq_false h, Bool.and_false]
theorem sameB_at {zs ys : List Int} {p inc q jnc : Int} {i : Nat} (h : ¬ zs.getD i 0 = ys.getD i 0) : sameB zs p inc ys q jnc = false := by
  unfold sameB; rw [decide_eq_false (show ¬ zs = ys from fun e => h (by rw [e])), Bool.false_and, Bool.false_and]
theorem sameB_yes {zs ys : List Int} {p inc q jnc : Int} (hl : zs.length = ys.length) (hp : p = q) (hi : inc = jnc) (h : ∀ i, i < zs.length → zs.getD i 0 = ys.getD i 0) : sameB zs p inc ys q jnc = true := by
  unfold sameB; rw [decide_eq_true (list_ext_getD hl h), decide_eq_true hp, decide_eq_true hi]; rfl
theorem sameB_iff {zs ys : List Int} {p inc q jnc : Int} : sameB zs p inc ys q jnc = true ↔ zs = ys ∧ p = q ∧ inc = jnc := by
  unfold sameB; simp [and_assoc]

end Go.Proofs.Ytgdkjmmlgnmidaa
