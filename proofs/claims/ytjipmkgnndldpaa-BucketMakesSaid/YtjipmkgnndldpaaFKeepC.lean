/- Contract of the reader's Curve. By the verifier's side. -/
import Derived.Test.YtjipmkgnndldpaaFLong
import Derived.Test.YtjipmkgnndldpaaFCurCGrowCurDCurE
import Derived.Test.YtjipmkgnndldpaaFBaseApartPickKeepS
namespace Go.Proofs.Ytjipmkgnndldpaa
open Go.RowKit
set_option linter.unusedSimpArgs false

/-- The reader's block in a later world, in which of the elder blocks only it has turned. -/
structure Held (w : World) (b : Nat) (a : Option Addr) (n cap : Nat) (w' : World) : Prop where
  src : ∃ k : Nat, k ≤ n ∧ w'.heap[b]? = some (.cells #[.slice a n cap, .int .i64 k] 107 (0, 0))
  ap : Apart b w w'

theorem Held.start {w : World} {b : Nat} {a : Option Addr} {n cap : Nat} (h : SrcAt w b a n cap) : Held w b a n cap w := ⟨h.src, Apart.refl _ _⟩
theorem Held.at {w w' : World} {b : Nat} {a : Option Addr} {n cap : Nat} (h : Held w b a n cap w') (hs : SrcAt w b a n cap) : SrcAt w' b a n cap := hs.mk2 h.ap h.src
theorem Held.lt {w w' : World} {b : Nat} {a : Option Addr} {n cap : Nat} (h : Held w b a n cap w') : b < w'.heap.size := by
  obtain ⟨k, _, hb⟩ := h.src
  rcases Nat.lt_or_ge b w'.heap.size with h' | h'
  · exact h'
  · simp [Array.getElem?_eq_none h'] at hb
theorem Held.call {w u v : World} {b : Nat} {a : Option Addr} {n cap : Nat} (h : Held w b a n cap u) (hs : SrcAt v b a n cap) (ha : Apart b u v) : Held w b a n cap v := ⟨hs.src, h.ap.trans ha⟩
theorem Held.alloc {w u : World} {b : Nat} {a : Option Addr} {n cap : Nat} (h : Held w b a n cap u) (o : Obj) : Held w b a n cap (u.alloc o) := by
  have hb : Below u.heap.size u (u.alloc o) := (Below.refl _ _).alloc (Nat.le_refl _) _
  obtain ⟨k, hk, hs⟩ := h.src
  exact ⟨⟨k, hk, (hb.block b h.lt).trans hs⟩, h.ap.alloc o⟩
theorem Held.drew {w u : World} {b : Nat} {a : Option Addr} {n cap : Nat} (h : Held w b a n cap u) : Held w b a n cap u.drew := ⟨h.src, ⟨h.ap.os, h.ap.tape, h.ap.output, h.ap.size, h.ap.block⟩⟩
theorem Held.drewN {w u : World} {b : Nat} {a : Option Addr} {n cap : Nat} (h : Held w b a n cap u) (m : Nat) : Held w b a n cap (u.drewN m) := ⟨h.src, h.ap.drewN m⟩
theorem Held.set {w u : World} {b : Nat} {a : Option Addr} {n cap : Nat} (h : Held w b a n cap u) (hb : b < w.heap.size) {p : Addr} (hp : w.heap.size ≤ p.block) (v : Value) : Held w b a n cap (u.setCell p v) := by
  obtain ⟨k, hk, hs⟩ := h.src
  exact ⟨⟨k, hk, (Below.heap_setCell _ _ _ _ (by omega)).trans hs⟩, h.ap.setNew hp v⟩
theorem Held.grown {w u v : World} {b : Nat} {a : Option Addr} {n cap : Nat} (h : Held w b a n cap u) (hb : b < w.heap.size) {row : Option Nat} (hg : u.grownBy v row) (hr : ∀ j, row = some j → w.heap.size ≤ j) : Held w b a n cap v := by
  obtain ⟨k, hk, hs⟩ := h.src
  exact ⟨⟨k, hk, (hg.block b h.lt (fun e => by have := hr b e.symm; omega)).trans hs⟩, h.ap.grown hg hr⟩
theorem Held.below {w u v : World} {b : Nat} {a : Option Addr} {n cap : Nat} (h : Held w b a n cap u) (hb : Below u.heap.size u v) : Held w b a n cap v := by
  obtain ⟨k, hk, hs⟩ := h.src
  exact ⟨⟨k, hk, (hb.block b h.lt).trans hs⟩, h.ap.trans (below_apart hb)⟩

theorem RowZ.else {w w' : World} {g k cap b : Nat} {zs : List Int} (h : RowZ w (some ⟨g, 0, none⟩) k cap zs) (he : Else b w w') (hg : ¬ g = b) : RowZ w' (some ⟨g, 0, none⟩) k cap zs :=
  ⟨h.len, h.le, h.sm, h.cm, fun i hi => by
    obtain ⟨x, h1, h2⟩ := h.cell i hi
    refine ⟨x, h1, (he.cell ?_).trans h2⟩
    rw [add_block]; cases h1; exact hg, h.bd⟩
end Go.Proofs.Ytjipmkgnndldpaa
