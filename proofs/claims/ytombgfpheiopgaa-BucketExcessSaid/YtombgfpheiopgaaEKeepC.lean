/- Contract of the reader's Curve. By the verifier's side. -/
import Derived.Test.YtombgfpheiopgaaELong
import Derived.Test.YtombgfpheiopgaaECurCGrowCurDCurE
import Derived.Test.YtombgfpheiopgaaEBaseApartPick
namespace Go.Proofs.Ytombgfpheiopgaa
open Go.RowKit
set_option linter.unusedSimpArgs false

/-- The reader's block in a later world, in which of the elder blocks only it has turned. -/
structure Held (w : World) (b : Nat) (a : Option Addr) (n cap : Nat) (w' : World) : Prop where
  src : ∃ k : Nat, k ≤ n ∧ w'.heap[b]? = some (.cells #[.slice a n cap, .int .i64 k] 100 (0, 0))
  ap : Apart b w w'

theorem Held.start {w : World} {b : Nat} {a : Option Addr} {n cap : Nat} (h : SrcAt w b a n cap) : Held w b a n cap w := ⟨h.src, Apart.refl _ _⟩
theorem Held.at {w w' : World} {b : Nat} {a : Option Addr} {n cap : Nat} (h : Held w b a n cap w') (hs : SrcAt w b a n cap) : SrcAt w' b a n cap := hs.mk2 h.ap h.src
theorem Held.lt {w w' : World} {b : Nat} {a : Option Addr} {n cap : Nat} (h : Held w b a n cap w') : b < w'.heap.size := by
  obtain ⟨k, _, hb⟩ := h.src
  rcases Nat.lt_or_ge b w'.heap.size with h' | h'
  · exact h'
  · simp [Array.getElem?_eq_none h'] at hb
theorem Held.call {w u v : World} {b : Nat} {a : Option Addr} {n cap : Nat} (h : Held w b a n cap u) (hs : SrcAt v b a n cap) (ha : Apart b u v) : Held w b a n cap v := ⟨hs.src, h.ap.trans ha⟩
theorem Held.alloc {w u : World} {b : Nat} {a : Option Addr} {n cap : Nat} (h : Held w b a n cap u) (o : Obj) : Held w b a n cap (u.alloc o) := by
  have hb : Below u.heap.size u (u.alloc o) := (Below.refl _ _).alloc (Nat.le_refl _) _
  obtain ⟨k, hk, hs⟩ := h.src
  exact ⟨⟨k, hk, (hb.block b h.lt).trans hs⟩, h.ap.alloc o⟩
theorem Held.drew {w u : World} {b : Nat} {a : Option Addr} {n cap : Nat} (h : Held w b a n cap u) : Held w b a n cap u.drew := ⟨h.src, ⟨h.ap.os, h.ap.tape, h.ap.output, h.ap.size, h.ap.block⟩⟩
theorem Held.drewN {w u : World} {b : Nat} {a : Option Addr} {n cap : Nat} (h : Held w b a n cap u) (m : Nat) : Held w b a n cap (u.drewN m) := ⟨h.src, h.ap.drewN m⟩
theorem Held.set {w u : World} {b : Nat} {a : Option Addr} {n cap : Nat} (h : Held w b a n cap u) (hb : b < w.heap.size) {p : Addr} (hp : w.heap.size ≤ p.block) (v : Value) : Held w b a n cap (u.setCell p v) := by
  obtain ⟨k, hk, hs⟩ := h.src
  exact ⟨⟨k, hk, (Below.heap_setCell _ _ _ _ (by omega)).trans hs⟩, h.ap.setNew hp v⟩
theorem Held.grown {w u v : World} {b : Nat} {a : Option Addr} {n cap : Nat} (h : Held w b a n cap u) (hb : b < w.heap.size) {row : Option Nat} (hg : u.grownBy v row) (hr : ∀ j, row = some j → w.heap.size ≤ j) : Held w b a n cap v := by
  obtain ⟨k, hk, hs⟩ := h.src
  exact ⟨⟨k, hk, (hg.block b h.lt (fun e => by have := hr b e.symm; omega)).trans hs⟩, h.ap.grown hg hr⟩
theorem Held.below {w u v : World} {b : Nat} {a : Option Addr} {n cap : Nat} (h : Held w b a n cap u) (hb : Below u.heap.size u v) : Held w b a n cap v := by
  obtain ⟨k, hk, hs⟩ := h.src
  exact ⟨⟨k, hk, (hb.block b h.lt).trans hs⟩, h.ap.trans (below_apart hb)⟩

theorem RowZ.else {w w' : World} {g k cap b : Nat} {zs : List Int} (h : RowZ w (some ⟨g, 0, none⟩) k cap zs) (he : Else b w w') (hg : ¬ g = b) : RowZ w' (some ⟨g, 0, none⟩) k cap zs :=
  ⟨h.len, h.le, h.sm, h.cm, fun i hi => by
    obtain ⟨x, h1, h2⟩ := h.cell i hi
    refine ⟨x, h1, (he.cell ?_).trans h2⟩
    rw [add_block]; cases h1; exact hg, h.bd⟩
/-- What stands while the increment is reckoned: the reader, the curve's box and row, the result's box. -/
structure Mk (w : World) (b : Nat) (a : Option Addr) (n cap g N cap' p : Nat) (zs : List Int) (w' : World) : Prop where
  held : Held w b a n cap w'
  box : ∃ x2, Cur3 w' (w.heap.size + 1) (.slice (some ⟨g, 0, none⟩) N cap') (.int .i64 p) x2
  res : Cur3 w' w.heap.size (.slice none 0 0) (.int .i64 0) (.int .i64 0)
  row : w'.ownsRow (w.heap.size + 1 + 1) 3 1 (.slice (some ⟨g, 0, none⟩) N cap') N (zs.map (Value.int .i64))

theorem Cur3.drew' {w : World} {b : Nat} {x0 x1 x2 : Value} (h : Cur3 w b x0 x1 x2) : Cur3 w.drew b x0 x1 x2 := ⟨h.c0, h.c1, h.c2, h.f0, h.f1, h.f2⟩
theorem Mk.drew {w u : World} {b n cap g N cap' p : Nat} {a : Option Addr} {zs : List Int} (h : Mk w b a n cap g N cap' p zs u) : Mk w b a n cap g N cap' p zs u.drew := by
  obtain ⟨x2, hx⟩ := h.box
  exact ⟨h.held.drew, ⟨x2, hx.drew'⟩, h.res.drew', h.row⟩
theorem Mk.alloc {w u : World} {b n cap g N cap' p : Nat} {a : Option Addr} {zs : List Int} (h : Mk w b a n cap g N cap' p zs u) (o : Obj) : Mk w b a n cap g N cap' p zs (u.alloc o) := by
  obtain ⟨x2, hx⟩ := h.box
  exact ⟨h.held.alloc o, ⟨x2, hx.alloc o⟩, h.res.alloc o, h.row.alloc o⟩
theorem Mk.call {w u v : World} {b n cap g N cap' p : Nat} {a : Option Addr} {zs : List Int} (h : Mk w b a n cap g N cap' p zs u) (hb : b < w.heap.size) (hs : SrcAt v b a n cap) (he : Apart b u v) : Mk w b a n cap g N cap' p zs v := by
  obtain ⟨x2, hx⟩ := h.box
  exact ⟨h.held.call hs he, ⟨x2, hx.apart he (by omega)⟩, h.res.apart he (by omega), owns_apart h.row he (by omega)⟩
/-- The cells that are read, and all that stands. -/
abbrev S9 (w : World) (b : Nat) (a : Option Addr) (n cap g N cap' p j i : Nat) (l m : Int) (zs : List Int) (w' : World) : Prop :=
  w'.cell? ⟨w.heap.size + 1, 0, none⟩ = some (.slice (some ⟨g, 0, none⟩) N cap') ∧ w'.cell? ⟨w.heap.size + 1, 1, none⟩ = some (.int .i64 p) ∧ w'.cell? ⟨g, j, none⟩ = some (.int .i64 l) ∧ w'.cell? ⟨g, i, none⟩ = some (.int .i64 m) ∧ Hid (Mk w b a n cap g N cap' p zs w')
theorem Mk.s9 {w u : World} {b n cap g N cap' p j i : Nat} {l m : Int} {a : Option Addr} {zs : List Int} (h : Mk w b a n cap g N cap' p zs u) (hl : zs.length = N) (hj : j < N) (hi : i < N) (el : zs.getD j 0 = l) (em : zs.getD i 0 = m) : S9 w b a n cap g N cap' p j i l m zs u := by
  obtain ⟨x2, hx⟩ := h.box
  exact ⟨hx.c0, hx.c1, by rw [← el]; exact owns_cell h.row (by omega), by rw [← em]; exact owns_cell h.row (by omega), h⟩
end Go.Proofs.Ytombgfpheiopgaa
