/- Merge of package trace: the first error of two, and two lists joined. By the verifier's side. -/
import Derived.Test.YtkienpbmoilheaaETrI
import Derived.Test.YtkienpbmoilheaaETrSTrTTrU
import Derived.Lib.AppendZeros
import Derived.Laws.OwnMore
namespace Go.Proofs.Ytkienpbmoilheaa
open Go.RowKit
set_option linter.unusedSimpArgs false
set_option linter.unusedVariables false

theorem run_append_nilc {P : Program} {w : World} (base : Nat) (t ty e : TypeId) (i : TypeInfo) (size c : Nat) (ht : P.underlying t = some (.slice e)) (hi : P.info? e = some i)
    (v : Value) (n : Nat) (xs : List Value) (hown : w.ownsRow base e size v n xs) :
    (Builtin.append_ #[t, t] ty #[v, .slice none 0 c]).run P w = .ok v w := by
  rcases hown.2 with ⟨rfl, rfl⟩ | ⟨g, cap, cur, rfl, _, _, hnc, _⟩
  · simp [Builtin.append_, run_underlying ht, sizeOf, typeInfo, hi, Builtin.lenOf, Builtin.firstCells]
  · simp [Builtin.append_, run_underlying ht, sizeOf, typeInfo, hi, Builtin.lenOf, Builtin.firstCells, hnc, storeCells]

theorem grownBy_below {base : Nat} {u w : World} {row : Option Nat} (hg : u.grownBy w row) (hr : ∀ j, row = some j → base ≤ j) (hb : base ≤ u.heap.size) : Below base u w :=
  (Below.refl base u).grown hg hb hr

theorem wpList_append_pk {w : World} {ops : Array Oper} {rest : List Oper} {o : Oper} {a : Act} {Q : Exit → Act → World → Prop} (hgd : o.guard = none) (s x : Operand)
    (ho : o.op = .call { callee := .builtin .append, args := #[s, x], argTypes := #[71, 71] })
    (base : Nat) (v : Value) (n : Nat) (l0 : List Pk) (hs : a.eval s = v) (hown : w.ownsRow base 103 3 v n (pkV l0))
    (b : Option Addr) (m c : Nat) (l1 : List Pk) (hx : a.eval x = .slice b m c) (hr : PkR w b m c l1) (hn : n ≤ 1000000) (hbase : base ≤ w.heap.size)
    (h : ∀ v' w', w'.ownsRow base 103 3 v' (n + m) (pkV (l0 ++ l1)) → Below base w w' → wpList Try.prog ops Q rest (a.put o.dst v') w') : wpList Try.prog ops Q (o :: rest) a w := by
  obtain ⟨i0, hi, hz0, hz1, hz2⟩ := info_parts info_pk
  have hsm := hr.sm
  have hrow : ∀ j, v.ownBlock = some j → base ≤ j := fun j hj => (hown.lt j hj).1
  cases b with
  | none =>
    obtain rfl : m = 0 := by
      rcases hr.place with ⟨h0, _⟩ | ⟨B, off, ha, _⟩
      · exact h0
      · cases ha
    have hl1 : l1 = [] := List.length_eq_zero_iff.1 hr.len
    subst hl1
    refine wpList_plain hgd fun K hK => ?_
    have hrun := run_append_nilc (P := Try.prog) (w := w) base 71 o.type 103 i0 3 c Try.underlying71 hi v n (pkV l0) hown
    unfold Oper.wp
    simp [execOp, ho, resolve, invoke, builtin, hs, hx, hrun, Result.andThen]
    exact hK _ _ (h v w (by rw [List.append_nil]; exact hown) (Below.refl _ _))
  | some ad =>
    refine wpList_append_own w hgd s x 71 ho base 103 i0 (.agg #[.int .i64 0, .int .i64 0, .int .i64 0]) 3 24 Try.underlying71 hi hz0 hz1 hz2 rfl (by decide) v n (pkV l0) hs hown ad m c (pkV l1) hx (by rw [pkV_length, hr.len]) ?_ (pkV_one l1) (by unfold maxLen; omega) (by omega) hbase ?_
    · intro j u hj
      rcases hr.place with ⟨h0, _⟩ | ⟨B, off, ha, hc⟩
      · have : l1 = [] := List.length_eq_zero_iff.1 (by rw [hr.len]; exact h0)
        subst this; cases hj
      · cases ha; exact hc.news j u hj
    · intro v' w' ho' hg _
      exact h v' w' (by rw [pkV_append]; exact ho') (grownBy_below hg hrow hbase)

end Go.Proofs.Ytkienpbmoilheaa
