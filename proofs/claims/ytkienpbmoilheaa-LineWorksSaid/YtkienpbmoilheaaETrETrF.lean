/- The sort of package slices at packets: its block, what swaps and what turns. By the verifier's side. -/
import Derived.Test.YtkienpbmoilheaaETrD
import Derived.Test.YtkienpbmoilheaaETrM
import Derived.Shelf.SlSortCmp.QuietGrown
namespace Go.Proofs.Ytkienpbmoilheaa
open Go.RowKit
set_option linter.unusedSimpArgs false
set_option linter.unusedVariables false

/-- The cells of a list of packets in an array of cells. -/
def pkCs (cs : Array Value) (off : Nat) (l : List Pk) : Prop :=
  ∀ i q, l[i]? = some q → cs[off + i * 3]? = some (.int .i64 q.f) ∧ cs[off + i * 3 + 1]? = some (.int .i64 q.t) ∧ cs[off + i * 3 + 2]? = some (.int .i64 q.s)
theorem pkCs.set {cs : Array Value} {off : Nat} {l : List Pk} (h : pkCs cs off l) {i : Nat} (hi : i < l.length) (q : Pk) :
    pkCs (((cs.setIfInBounds (off + i * 3) (.int .i64 q.f)).setIfInBounds (off + i * 3 + 1) (.int .i64 q.t)).setIfInBounds (off + i * 3 + 2) (.int .i64 q.s)) off (l.set i q) := fun j r hj => by
  by_cases e : j = i
  · subst e
    rw [List.getElem?_set_self hi] at hj
    cases hj
    obtain ⟨h1, h2, h3⟩ := h j _ (List.getElem?_eq_getElem hi)
    have k1 := (Array.getElem?_eq_some_iff.1 h1).1
    have k2 := (Array.getElem?_eq_some_iff.1 h2).1
    have k3 := (Array.getElem?_eq_some_iff.1 h3).1
    refine ⟨?_, ?_, ?_⟩
    · rw [Array.getElem?_setIfInBounds_ne (by omega), Array.getElem?_setIfInBounds_ne (by omega), Array.getElem?_setIfInBounds_self_of_lt k1]
    · rw [Array.getElem?_setIfInBounds_ne (by omega), Array.getElem?_setIfInBounds_self_of_lt (by simpa using k2)]
    · rw [Array.getElem?_setIfInBounds_self_of_lt (by simpa using k3)]
  · rw [List.getElem?_set_ne (fun h => e h.symm)] at hj
    obtain ⟨h1, h2, h3⟩ := h j r hj
    refine ⟨?_, ?_, ?_⟩ <;> rw [Array.getElem?_setIfInBounds_ne (by omega), Array.getElem?_setIfInBounds_ne (by omega), Array.getElem?_setIfInBounds_ne (by omega)] <;> assumption

/-- A block of its own, which reads a list of packets from a place on. -/
def PkO (u : World) (B off : Nat) (l : List Pk) : Prop := ∃ cs t, u.heap[B]? = some (.cells cs t (0, 0)) ∧ pkCs cs off l
section
variable {u v : World} {B off : Nat} {l : List Pk}
theorem PkO.frozen (h : PkO u B off l) (o : Nat) : u.frozen? ⟨B, o, none⟩ = false := by
  obtain ⟨cs, t, hb, _⟩ := h
  simp [World.frozen?, hb]
theorem PkO.cells (h : PkO u B off l) : PkC u B off l := fun i q hq => by
  obtain ⟨cs, t, hb, hc⟩ := h
  obtain ⟨h1, h2, h3⟩ := hc i q hq
  have e : ∀ o, u.cell? ⟨B, o, none⟩ = cs[o]? := fun o => by simp [World.cell?, hb]
  exact ⟨(e _).trans h1, (e _).trans h2, (e _).trans h3⟩
theorem PkO.lt (h : PkO u B off l) : B < u.heap.size := by
  obtain ⟨cs, t, hb, _⟩ := h
  exact (Array.getElem?_eq_some_iff.1 hb).1
theorem PkO.of_block (h : PkO u B off l) (hb : v.heap[B]? = u.heap[B]?) : PkO v B off l := by
  obtain ⟨cs, t, h1, h2⟩ := h; exact ⟨cs, t, hb.trans h1, h2⟩
theorem PkO.under (h : PkO u B off l) (hb : Below u.heap.size u v) : PkO v B off l := h.of_block (hb.block _ h.lt)
theorem PkO.drewN (h : PkO u B off l) (n : Nat) : PkO (u.drewN n) B off l := h
theorem PkO.drew (h : PkO u B off l) : PkO u.drew B off l := h
theorem block_set {w : World} {b : Nat} {cs : Array Value} {t : TypeId} (o : Nat) (x : Value) (h : w.heap[b]? = some (.cells cs t (0, 0))) : (w.setCell ⟨b, o, none⟩ x).heap[b]? = some (.cells (cs.setIfInBounds o x) t (0, 0)) := by
  simp [World.setCell, Array.getElem?_modify, h]
/-- The three stores of a packet. -/
theorem PkO.set (h : PkO u B off l) {i : Nat} (hi : i < l.length) (q : Pk) :
    PkO (((u.setCell ⟨B, off + i * 3, none⟩ (.int .i64 q.f)).setCell ⟨B, off + i * 3 + 1, none⟩ (.int .i64 q.t)).setCell ⟨B, off + i * 3 + 2, none⟩ (.int .i64 q.s)) B off (l.set i q) := by
  obtain ⟨cs, t, hb, hc⟩ := h
  exact ⟨_, t, block_set _ _ (block_set _ _ (block_set _ _ hb)), hc.set hi q⟩
end
theorem Apart.set3 {B : Nat} {u v : World} (h : Apart B u v) (o1 o2 o3 : Nat) (x1 x2 x3 : Value) : Apart B u (((v.setCell ⟨B, o1, none⟩ x1).setCell ⟨B, o2, none⟩ x2).setCell ⟨B, o3, none⟩ x3) :=
  h.trans ((((Else.refl _ _).setCell o1 x1).setCell o2 x2).setCell o3 x3).apart
theorem Apart.drew {b : Nat} {u v : World} (h : Apart b u v) : Apart b u v.drew := ⟨h.os, h.tape, h.output, h.size, h.block⟩

end Go.Proofs.Ytkienpbmoilheaa

namespace Go.Proofs.Ytkienpbmoilheaa
open Go.RowKit Go.Sort
set_option linter.unusedSimpArgs false
set_option linter.unusedVariables false

theorem below_grown (w : World) (n : Nat) (os : Array Obj) : Below w.heap.size w (grow (w.drewN n) os) :=
  ⟨rfl, rfl, rfl, by rw [size_grow]; exact Nat.le_add_right _ _, fun k hk => heap_grow_old (w.drewN n) os hk⟩
theorem PkO.grown {u : World} {B off : Nat} {l : List Pk} (h : PkO u B off l) (n : Nat) (os : Array Obj) : PkO (grow (u.drewN n) os) B off l := h.under (below_grown u n os)
end Go.Proofs.Ytkienpbmoilheaa
