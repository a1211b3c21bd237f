/- Lists of packets in memory; Validate and Same of package trace and of the document. By the verifier's side. -/
import Derived.Test.YtkienpbmoilheaaECurAGrow
import Derived.Test.YtkienpbmoilheaaETrM
import Derived.Test.YtkienpbmoilheaaEBaseApartPickKeepS
import Derived.Deep.Cut
namespace Go.Proofs.Ytkienpbmoilheaa
open Go.RowKit
set_option linter.unusedSimpArgs false
set_option linter.unusedVariables false

/-- The cells of a list of packets, from a place on. -/
def PkC (u : World) (B off : Nat) (l : List Pk) : Prop :=
  ∀ i q, l[i]? = some q → u.cell? ⟨B, off + i * 3, none⟩ = some (.int .i64 q.f) ∧ u.cell? ⟨B, off + i * 3 + 1, none⟩ = some (.int .i64 q.t) ∧ u.cell? ⟨B, off + i * 3 + 2, none⟩ = some (.int .i64 q.s)
section
variable {u v : World} {B off b : Nat} {l : List Pk}
theorem PkC.of_block (h : PkC u B off l) (hb : B < u.heap.size → v.heap[B]? = u.heap[B]?) : PkC v B off l := fun i c hc => by
  obtain ⟨h1, h2, h3⟩ := h i c hc
  have hb' := hb (lt_of_cell h1)
  have hs : ∀ o, v.cell? ⟨B, o, none⟩ = u.cell? ⟨B, o, none⟩ := fun o => World.cell?_of_block (w := u) (a := ⟨B, o, none⟩) hb'
  exact ⟨(hs _).trans h1, (hs _).trans h2, (hs _).trans h3⟩
theorem PkC.under (h : PkC u B off l) (hb : Below u.heap.size u v) : PkC v B off l := fun i c hc => by
  obtain ⟨h1, h2, h3⟩ := h i c hc
  exact ⟨(hb.cell (lt_of_cell h1)).trans h1, (hb.cell (lt_of_cell h2)).trans h2, (hb.cell (lt_of_cell h3)).trans h3⟩
theorem PkC.apart (h : PkC u B off l) (ha : Apart b u v) (hB : B ≠ b) : PkC v B off l := h.of_block fun hl => ha.block _ hl hB
theorem PkC.other {q : Nat} (h : PkC u B off l) (hq : B ≠ q) (i : Nat) (x : Value) : PkC (u.setCell ⟨q, i, none⟩ x) B off l := h.of_block fun _ => Below.heap_setCell _ _ _ _ hq
theorem PkC.lt (h : PkC u B off l) {i : Nat} {q : Pk} (hc : l[i]? = some q) : B < u.heap.size := lt_of_cell (h i q hc).1
end

/-- Every number of it is one of 64 bits. -/
def Pk64 (q : Pk) : Prop := In64 q.f ∧ In64 q.t ∧ In64 q.s

theorem cell_new13 {w : World} {cs : Array Value} {t : TypeId} {i : Nat} {v : Value} (h : cs[i]? = some v) : (w.alloc (.cells cs t)).cell? ⟨w.heap.size, i, none⟩ = some v := by
  have hb : (w.alloc (.cells cs t)).heap[w.heap.size]? = some (.cells cs t (0, 0)) := by
    show (w.heap.push _)[w.heap.size]? = _
    simp
  unfold World.cell?
  dsimp only
  rw [hb]; exact h

/-- A slice that reads a list of packets. -/
structure PkR (w : World) (a : Option Addr) (n cap : Nat) (l : List Pk) : Prop where
  len : l.length = n
  le : n ≤ cap
  sm : n ≤ 1000000
  cm : cap ≤ 9223372036854775807
  place : (n = 0 ∧ ∀ x, a = some x → True) ∨ ∃ B off, a = some ⟨B, off, none⟩ ∧ PkC w B off l
  bd : ∀ q ∈ l, Pk64 q

theorem PkR.under {u v : World} {a : Option Addr} {n cap : Nat} {l : List Pk} (h : PkR u a n cap l) (hb : Below u.heap.size u v) : PkR v a n cap l :=
  ⟨h.len, h.le, h.sm, h.cm, h.place.imp id fun ⟨B, off, ha, hc⟩ => ⟨B, off, ha, hc.under hb⟩, h.bd⟩
theorem PkR.at {u : World} {a : Option Addr} {n cap : Nat} {l : List Pk} (h : PkR u a n cap l) {k : Nat} (hk : k < n) :
    ∃ B off q, a = some ⟨B, off, none⟩ ∧ PkC u B off l ∧ l[k]? = some q ∧ Pk64 q := by
  rcases h.place with ⟨h0, _⟩ | ⟨B, off, ha, hc⟩
  · omega
  · have hl : k < l.length := by rw [h.len]; exact hk
    exact ⟨B, off, l[k], ha, hc, List.getElem?_eq_getElem hl, h.bd _ (List.getElem_mem hl)⟩

theorem drop_at {l : List Pk} {k : Nat} {q : Pk} (h : l[k]? = some q) : l.drop k = q :: l.drop (k + 1) := by
  obtain ⟨hk, he⟩ := List.getElem?_eq_some_iff.1 h
  rw [← he, List.drop_eq_getElem_cons hk]

set_option maxHeartbeats 400000 in
theorem outside13 (n lo hi : Int) (c : Bool) (hc : (decide (n < lo) || decide (hi < n)) = c) (w : World) :
    Calls Try.prog 298 #[.int .i64 n, .int .i64 lo, .int .i64 hi] w fun e w' => e = .returned (.bool c) ∧ w' = w := by
  by_cases h1 : n < lo
  · have hc' : c = true := by rw [← hc]; simp [h1]
    subst hc'
    clear hc
    go_enter Try.func298, Try.ntmps298
    go_wp2_with fail
    go_ret
    exact ⟨rfl, rfl⟩
  · by_cases h2 : hi < n
    · have hc' : c = true := by rw [← hc]; simp [h2]
      subst hc'
      clear hc
      go_enter Try.func298, Try.ntmps298
      go_wp2_with fail
      go_ret
      exact ⟨rfl, rfl⟩
    · have hc' : c = false := by rw [← hc]; simp [h1, h2]
      subst hc'
      clear hc
      go_enter Try.func298, Try.ntmps298
      go_wp2_with fail
      go_ret
      exact ⟨rfl, rfl⟩
end Go.Proofs.Ytkienpbmoilheaa
