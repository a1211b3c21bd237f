/- Least of the document. By the verifier's side. -/
import Derived.Test.YtjipmkgnndldpaaEBkLBkNBkO
namespace Go.Proofs.Ytjipmkgnndldpaa
open Go.RowKit
set_option linter.unusedSimpArgs false
set_option linter.unusedVariables false

theorem BLs.store {w u : World} {L q : Nat} {r : Rs} {a : Option Addr} {n cap : Nat} (h : BLs w u L r a n cap) (h1 : w.heap.size < q) (h2 : ¬ q = L) (h3 : ∀ x, a = some x → 1 ≤ n → x.block ≠ q) (i : Nat) (v : Value) : BLs w (u.setCell ⟨q, i, none⟩ v) L r a n cap :=
  ⟨h.res.other (by omega) _ _, h.box.other (by omega) _ _, h.row.store h3 _ _, h.far, h.lt, h.below.setCell (p := ⟨q, i, none⟩) (by show w.heap.size ≤ q; omega) _⟩

end Go.Proofs.Ytjipmkgnndldpaa

namespace Go.Proofs.Ytjipmkgnndldpaa
open Go.RowKit
set_option linter.unusedSimpArgs false
set_option linter.unusedVariables false

/-- A list of buckets, at an address. -/
def RowC (u : World) (B off : Nat) (bs : List Bkt) : Prop :=
  ∀ i b, bs[i]? = some b → u.cell? ⟨B, off + i * 4, none⟩ = some (.int .i64 b.bn) ∧ u.cell? ⟨B, off + i * 4 + 1, none⟩ = some (.int .i64 b.bd) ∧ u.cell? ⟨B, off + i * 4 + 2, none⟩ = some (.int .i64 b.rn) ∧ u.cell? ⟨B, off + i * 4 + 3, none⟩ = some (.int .i64 b.rd)
section
variable {u v : World} {B off b : Nat} {bs : List Bkt}
theorem RowC.at0 (h : RowC u B off bs) {i : Nat} {b : Bkt} (hc : bs[i]? = some b) :
    u.cell? ⟨B, off + i * 4, none⟩ = some (.int .i64 b.bn) ∧ u.cell? ⟨B, off + i * 4 + 1, none⟩ = some (.int .i64 b.bd) ∧ u.cell? ⟨B, off + i * 4 + 2, none⟩ = some (.int .i64 b.rn) ∧ u.cell? ⟨B, off + i * 4 + 3, none⟩ = some (.int .i64 b.rd) := h i b hc
theorem RowC.of_block (h : RowC u B off bs) (hb : B < u.heap.size → v.heap[B]? = u.heap[B]?) : RowC v B off bs := fun i c hc => by
  obtain ⟨h1, h2, h3, h4⟩ := h i c hc
  have hb' := hb (lt_of_cell h1)
  have hs : ∀ o, v.cell? ⟨B, o, none⟩ = u.cell? ⟨B, o, none⟩ := fun o => World.cell?_of_block (w := u) (a := ⟨B, o, none⟩) hb'
  exact ⟨(hs _).trans h1, (hs _).trans h2, (hs _).trans h3, (hs _).trans h4⟩
theorem RowC.under (h : RowC u B off bs) (hb : Below u.heap.size u v) : RowC v B off bs := fun i c hc => by
  obtain ⟨h1, h2, h3, h4⟩ := h i c hc
  exact ⟨(hb.cell (lt_of_cell h1)).trans h1, (hb.cell (lt_of_cell h2)).trans h2, (hb.cell (lt_of_cell h3)).trans h3, (hb.cell (lt_of_cell h4)).trans h4⟩
theorem RowC.apart (h : RowC u B off bs) (ha : Apart b u v) (hB : B ≠ b) : RowC v B off bs := h.of_block fun hl => ha.block _ hl hB
theorem RowC.other {q : Nat} (h : RowC u B off bs) (hq : B ≠ q) (i : Nat) (x : Value) : RowC (u.setCell ⟨q, i, none⟩ x) B off bs := h.of_block fun _ => Below.heap_setCell _ _ _ _ hq
theorem RowB.toC (h : RowB u B 0 bs) : RowC u B 0 bs := h
end

end Go.Proofs.Ytjipmkgnndldpaa
