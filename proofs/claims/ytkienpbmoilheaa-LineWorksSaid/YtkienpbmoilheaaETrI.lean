/- Clone and Order of package trace, of whatever list. By the verifier's side. -/
import Derived.Test.YtkienpbmoilheaaETrETrF
import Derived.Deep.DeepCutAuto
namespace Go.Proofs.Ytkienpbmoilheaa
open Go.RowKit Go.Sort
set_option linter.unusedSimpArgs false
set_option linter.unusedVariables false

/-- The cells of a list. -/
def pkV : List Pk → List Value
  | [] => []
  | q :: r => .int .i64 q.f :: .int .i64 q.t :: .int .i64 q.s :: pkV r
theorem pkV_length : ∀ l : List Pk, (pkV l).length = l.length * 3
  | [] => rfl
  | q :: r => by show (pkV r).length + 1 + 1 + 1 = (r.length + 1) * 3; rw [pkV_length r]; omega
theorem pkV_append : ∀ (a b : List Pk), pkV (a ++ b) = pkV a ++ pkV b
  | [], b => rfl
  | q :: r, b => by show _ :: _ :: _ :: pkV (r ++ b) = _; rw [pkV_append r b]; rfl
theorem pkV_one : ∀ (l : List Pk) (u : Value), u ∈ pkV l → u.oneCell' = true
  | [], u, h => by cases h
  | q :: r, u, h => by
    rcases List.mem_cons.1 h with e | h
    · rw [e]; rfl
    · rcases List.mem_cons.1 h with e | h
      · rw [e]; rfl
      · rcases List.mem_cons.1 h with e | h
        · rw [e]; rfl
        · exact pkV_one r u h
theorem pkV_at : ∀ (l : List Pk) (i : Nat) (q : Pk), l[i]? = some q → (pkV l)[i * 3]? = some (.int .i64 q.f) ∧ (pkV l)[i * 3 + 1]? = some (.int .i64 q.t) ∧ (pkV l)[i * 3 + 2]? = some (.int .i64 q.s)
  | [], i, q, h => by cases h
  | x :: r, 0, q, h => by cases h; exact ⟨rfl, rfl, rfl⟩
  | x :: r, i + 1, q, h => by
    have := pkV_at r i q h
    rw [show (i + 1) * 3 = i * 3 + 3 by omega]
    exact this
theorem pkV_of : ∀ (l : List Pk) (j : Nat) (u : Value), (pkV l)[j]? = some u → ∃ i q, l[i]? = some q ∧ ((j = i * 3 ∧ u = .int .i64 q.f) ∨ (j = i * 3 + 1 ∧ u = .int .i64 q.t) ∨ (j = i * 3 + 2 ∧ u = .int .i64 q.s))
  | [], j, u, h => by cases h
  | q :: r, 0, u, h => by cases h; exact ⟨0, q, rfl, .inl ⟨rfl, rfl⟩⟩
  | q :: r, 1, u, h => by cases h; exact ⟨0, q, rfl, .inr (.inl ⟨rfl, rfl⟩)⟩
  | q :: r, 2, u, h => by cases h; exact ⟨0, q, rfl, .inr (.inr ⟨rfl, rfl⟩)⟩
  | x :: r, j + 3, u, h => by
    obtain ⟨i, q, hi, hu⟩ := pkV_of r j u h
    refine ⟨i + 1, q, hi, ?_⟩
    rcases hu with ⟨rfl, hu⟩ | ⟨rfl, hu⟩ | ⟨rfl, hu⟩
    · exact .inl ⟨by omega, hu⟩
    · exact .inr (.inl ⟨by omega, hu⟩)
    · exact .inr (.inr ⟨by omega, hu⟩)
theorem PkC.news {w : World} {B off : Nat} {l : List Pk} (h : PkC w B off l) : ∀ j u, (pkV l)[j]? = some u → w.cell? ((⟨B, off, none⟩ : Addr).add j) = some u := fun j u hj => by
  obtain ⟨i, q, hi, hu⟩ := pkV_of l j u hj
  obtain ⟨h1, h2, h3⟩ := h i q hi
  have ea : ((⟨B, off, none⟩ : Addr).add j) = ⟨B, off + j, none⟩ := by unfold Addr.add; split <;> simp_all
  rw [ea]
  rcases hu with ⟨rfl, rfl⟩ | ⟨rfl, rfl⟩ | ⟨rfl, rfl⟩
  · exact h1
  · exact h2
  · exact h3
theorem info_pk : (Try.prog.info? 103).map (fun i => (i.zero, i.size, i.bytes)) = some (some (.agg #[.int .i64 0, .int .i64 0, .int .i64 0]), 3, 24) := by kernel_rfl
/-- A row of the call's own is a block of its own. -/
theorem pkO_of_owns {w : World} {base n : Nat} {v : Value} {l : List Pk} (h : w.ownsRow base 103 3 v n (pkV l)) :
    l.length = n ∧ ∃ a cap, v = .slice a n cap ∧ n ≤ cap ∧ cap ≤ 9223372036854775807 ∧ (∀ x, a = some x → base ≤ x.block) ∧ (a = none ∧ n = 0 ∨ ∃ g, a = some ⟨g, 0, none⟩ ∧ base ≤ g ∧ PkO w g 0 l) := by
  obtain ⟨hl, hr⟩ := h
  rw [pkV_length] at hl
  have hn : l.length = n := by omega
  refine ⟨hn, ?_⟩
  rcases hr with ⟨rfl, h0⟩ | ⟨g, cap, cur, rfl, hbase, hg, hnc, hcm, hsz, htake⟩
  · subst h0
    exact ⟨none, 0, rfl, Nat.le_refl _, by omega, (fun x hx => by cases hx), .inl ⟨rfl, rfl⟩⟩
  · refine ⟨some ⟨g, 0, none⟩, cap, rfl, hnc, by unfold maxLen at hcm; omega, fun x hx => by cases hx; exact hbase, .inr ⟨g, rfl, hbase, cur, _, hg, fun i q hq => ?_⟩⟩
    have hi := (List.getElem?_eq_some_iff.1 hq).1
    obtain ⟨h1, h2, h3⟩ := pkV_at l i q hq
    rw [← htake, List.getElem?_take, if_pos (by omega)] at h1 h2 h3
    rw [Nat.zero_add]
    exact ⟨by simpa using h1, by simpa using h2, by simpa using h3⟩

end Go.Proofs.Ytkienpbmoilheaa
