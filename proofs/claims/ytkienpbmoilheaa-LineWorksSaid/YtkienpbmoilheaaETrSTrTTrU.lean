/- Cumulative of package trace, of whatever arguments; the chapter's example. By the verifier's side. -/
import Derived.Test.YtkienpbmoilheaaETrR
import Derived.Test.YtkienpbmoilheaaETrD
import Derived.Test.YtkienpbmoilheaaETrI
import Derived.Test.YtkienpbmoilheaaEBaseApartPickKeepS
namespace Go.Proofs.Ytkienpbmoilheaa
open Go.RowKit Go.Shelf
set_option linter.unusedSimpArgs false
set_option linter.unusedVariables false

/-- The code of Cumulative's error. -/
def cumC (fl tk : Int) (l : List Pk) : Int := if vcode l = 0 then (if fl < -1 ∨ tk < 0 ∨ 2000 < tk then 2 else 0) else vcode l
/-- The sums. -/
def sumsL (fl : Int) (N : Nat) (l : List Pk) : List Int := (List.range N).map (fun (k : Nat) => sumG (bytT (k : Int)) (sel fl l))
/-- What Cumulative lists. -/
def cumL (fl tk : Int) (l : List Pk) : List Int := if cumC fl tk l = 0 then sumsL fl (tk.toNat + 1) l else []
theorem sumsL_len (fl : Int) (N : Nat) (l : List Pk) : (sumsL fl N l).length = N := by unfold sumsL; simp
theorem sumsL_at (fl : Int) (N : Nat) (l : List Pk) {k : Nat} (hk : k < N) : (sumsL fl N l).getD k 0 = sumG (bytT (k : Int)) (sel fl l) := by
  unfold sumsL
  rw [List.getD_eq_getElem?_getD, List.getElem?_map, List.getElem?_range hk]; rfl
/-- Sums and an error are handed back. -/
def GivesSums (zs : List Int) (c : Int) (w : World) (e : Ending) (w' : World) : Prop :=
  ∃ a n cap, e = .returned (.tuple #[.slice a n cap, .int .i64 c]) ∧ Below w.heap.size w w' ∧ RowZ w' a n cap zs ∧ ∀ x, a = some x → w.heap.size ≤ x.block
theorem GivesSums.none {c : Int} {w w' : World} (hb : Below w.heap.size w w') : GivesSums [] c w (.returned (.tuple #[.slice none 0 0, .int .i64 c])) w' :=
  ⟨Option.none, 0, 0, rfl, hb, ⟨rfl, Nat.le_refl _, by omega, by omega, fun i hi => absurd hi (Nat.not_lt_zero _), fun i hi => absurd hi (Nat.not_lt_zero _)⟩, fun x hx => by cases hx⟩
end Go.Proofs.Ytkienpbmoilheaa

namespace Go.Proofs.Ytkienpbmoilheaa
open Go.RowKit
set_option linter.unusedSimpArgs false
set_option linter.unusedVariables false

/-- A block that lists packets. -/
theorem pkR_new {w : World} {l : List Pk} {cs : Array Value} {t : TypeId} (hn : l.length ≤ 1000000) (hl : ∀ q ∈ l, Pk64 q) (hc : ∀ i q, l[i]? = some q → cs[i * 3]? = some (.int .i64 q.f) ∧ cs[i * 3 + 1]? = some (.int .i64 q.t) ∧ cs[i * 3 + 2]? = some (.int .i64 q.s)) :
    PkR (w.alloc (.cells cs t)) (some ⟨w.heap.size, 0, none⟩) l.length l.length l :=
  ⟨rfl, Nat.le_refl _, hn, by omega, .inr ⟨_, 0, rfl, fun i q hq => by
    obtain ⟨h1, h2, h3⟩ := hc i q hq
    rw [Nat.zero_add]
    exact ⟨cell_new13 h1, cell_new13 h2, cell_new13 h3⟩⟩, hl⟩

end Go.Proofs.Ytkienpbmoilheaa

namespace Go.Proofs.Ytkienpbmoilheaa
open Go.RowKit
set_option linter.unusedSimpArgs false
set_option linter.unusedVariables false

theorem owns_apart13 {w w' : World} {b base : Nat} {v : Value} {k : Nat} {xs : List Value} (h : w.ownsRow base 103 3 v k xs) (ha : Apart b w w') (hb : b < base) : w'.ownsRow base 103 3 v k xs := by
  obtain ⟨hl, hr⟩ := h
  refine ⟨hl, ?_⟩
  rcases hr with h0 | ⟨g, cap, cur, hv, hbase, hg, h1, h2, h3, h4⟩
  · exact .inl h0
  · have hlt : g < w.heap.size := by
      rcases Nat.lt_or_ge g w.heap.size with h' | h'
      · exact h'
      · simp [Array.getElem?_eq_none h'] at hg
    exact .inr ⟨g, cap, cur, hv, hbase, (ha.block g hlt (by omega)).trans hg, h1, h2, h3, h4⟩

/-- The reader, from a fixed world on. -/
structure Hld13 (w : World) (b : Nat) (a : Option Addr) (n cap : Nat) (w' : World) : Prop where
  src : ∃ k : Nat, k ≤ n ∧ w'.heap[b]? = some (.cells #[.slice a n cap, .int .i64 k] 114 (0, 0))
  ap : Apart b w w'

theorem Hld13.start {w : World} {b : Nat} {a : Option Addr} {n cap : Nat} (h : SrcAt w b a n cap) : Hld13 w b a n cap w := ⟨h.src, Apart.refl _ _⟩
theorem Hld13.at {w w' : World} {b : Nat} {a : Option Addr} {n cap : Nat} (h : Hld13 w b a n cap w') (hs : SrcAt w b a n cap) : SrcAt w' b a n cap := hs.mk2 h.ap h.src
theorem Hld13.lt {w w' : World} {b : Nat} {a : Option Addr} {n cap : Nat} (h : Hld13 w b a n cap w') : b < w'.heap.size := by
  obtain ⟨k, _, hb⟩ := h.src
  rcases Nat.lt_or_ge b w'.heap.size with h' | h'
  · exact h'
  · simp [Array.getElem?_eq_none h'] at hb
theorem Hld13.call {w u v : World} {b : Nat} {a : Option Addr} {n cap : Nat} (h : Hld13 w b a n cap u) (hs : SrcAt v b a n cap) (ha : Apart b u v) : Hld13 w b a n cap v := ⟨hs.src, h.ap.trans ha⟩
theorem Hld13.alloc {w u : World} {b : Nat} {a : Option Addr} {n cap : Nat} (h : Hld13 w b a n cap u) (o : Obj) : Hld13 w b a n cap (u.alloc o) := by
  have hb : Below u.heap.size u (u.alloc o) := (Below.refl _ _).alloc (Nat.le_refl _) _
  obtain ⟨k, hk, hs⟩ := h.src
  exact ⟨⟨k, hk, (hb.block b h.lt).trans hs⟩, h.ap.alloc o⟩
theorem Hld13.drew {w u : World} {b : Nat} {a : Option Addr} {n cap : Nat} (h : Hld13 w b a n cap u) : Hld13 w b a n cap u.drew := ⟨h.src, ⟨h.ap.os, h.ap.tape, h.ap.output, h.ap.size, h.ap.block⟩⟩
theorem Hld13.drewN {w u : World} {b : Nat} {a : Option Addr} {n cap : Nat} (h : Hld13 w b a n cap u) (m : Nat) : Hld13 w b a n cap (u.drewN m) := ⟨h.src, h.ap.drewN m⟩
theorem Hld13.set {w u : World} {b : Nat} {a : Option Addr} {n cap : Nat} (h : Hld13 w b a n cap u) (hb : b < w.heap.size) {p : Addr} (hp : w.heap.size ≤ p.block) (v : Value) : Hld13 w b a n cap (u.setCell p v) := by
  obtain ⟨k, hk, hs⟩ := h.src
  exact ⟨⟨k, hk, (Below.heap_setCell _ _ _ _ (by omega)).trans hs⟩, h.ap.setNew hp v⟩
theorem Hld13.grown {w u v : World} {b : Nat} {a : Option Addr} {n cap : Nat} (h : Hld13 w b a n cap u) (hb : b < w.heap.size) {row : Option Nat} (hg : u.grownBy v row) (hr : ∀ j, row = some j → w.heap.size ≤ j) : Hld13 w b a n cap v := by
  obtain ⟨k, hk, hs⟩ := h.src
  exact ⟨⟨k, hk, (hg.block b h.lt (fun e => by have := hr b e.symm; omega)).trans hs⟩, h.ap.grown hg hr⟩

end Go.Proofs.Ytkienpbmoilheaa
