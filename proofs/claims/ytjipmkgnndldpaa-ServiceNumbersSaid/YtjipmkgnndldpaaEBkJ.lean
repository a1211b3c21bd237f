/- Lists of staircases, of buckets and of lists of buckets. By the verifier's side. -/
import Derived.Test.YtjipmkgnndldpaaEBkC
import Derived.Test.YtjipmkgnndldpaaEBkSBkH
import Derived.Test.YtjipmkgnndldpaaERegI
namespace Go.Proofs.Ytjipmkgnndldpaa
open Go.RowKit
set_option linter.unusedSimpArgs false
set_option linter.unusedVariables false

/-- A list of buckets that Least may be asked of: it is empty, or it leads to its buckets; not into block b. -/
def IsB (b : Nat) (u : World) (A : Option Addr) (n cap : Nat) : Prop :=
  n = 0 ∨ ∃ (B off : Nat) (bs : List Bkt), A = some ⟨B, off, none⟩ ∧ bs.length = n ∧ n ≤ 1000 ∧ n ≤ cap ∧ B ≠ b ∧ RowC u B off bs
section
variable {b : Nat} {u v : World} {A : Option Addr} {n cap : Nat}
theorem IsB.under (h : IsB b u A n cap) (hb : Below u.heap.size u v) : IsB b v A n cap := by
  rcases h with h | ⟨B, off, bs, h1, h2, h3, h4, h5, h6⟩
  · exact .inl h
  · exact .inr ⟨B, off, bs, h1, h2, h3, h4, h5, h6.under hb⟩
theorem IsB.apart (h : IsB b u A n cap) (ha : Apart b u v) : IsB b v A n cap := by
  rcases h with h | ⟨B, off, bs, h1, h2, h3, h4, h5, h6⟩
  · exact .inl h
  · exact .inr ⟨B, off, bs, h1, h2, h3, h4, h5, h6.apart ha h5⟩
theorem IsB.block {B : Nat} {bs : List Bkt} (h : RowC u B 0 bs) (hB : B ≠ b) (hl : bs.length = n) (h1 : n ≤ 1000) (h2 : n ≤ cap) : IsB b u (some ⟨B, 0, none⟩) n cap := .inr ⟨B, 0, bs, rfl, hl, h1, h2, hB, h⟩
end
theorem rowC_two (w : World) (b c : Bkt) (t : TypeId) : RowC (w.alloc (.cells #[.int .i64 b.bn, .int .i64 b.bd, .int .i64 b.rn, .int .i64 b.rd, .int .i64 c.bn, .int .i64 c.bd, .int .i64 c.rn, .int .i64 c.rd] t)) w.heap.size 0 [b, c] := fun i e hc => by
  rcases i with _ | _ | i
  · cases hc; exact ⟨by go_simp, by go_simp, by go_simp, by go_simp⟩
  · cases hc; exact ⟨by go_simp, by go_simp, by go_simp, by go_simp⟩
  · simp at hc
/-- A list of buckets, as a value. -/
def VB (b : Nat) (n : Nat) (t : Value) (u : World) : Prop := ∃ A : Option Addr, t = .slice A n n ∧ IsB b u A n n
theorem VB.apart {b n : Nat} {t : Value} {u v : World} (h : VB b n t u) (ha : Apart b u v) : VB b n t v := by
  obtain ⟨A, h1, h2⟩ := h
  exact ⟨A, h1, h2.apart ha⟩
def VF (t : Value) : Prop := ∃ x y : Int, t = .agg #[.int .i64 x, .int .i64 y]
def VK (t : Value) : Prop := ∃ x y z v : Int, t = .agg #[.int .i64 x, .int .i64 y, .int .i64 z, .int .i64 v]
end Go.Proofs.Ytjipmkgnndldpaa
