/- Contracts of package order's small functions: value, leastMultiple, at, and the two closures. By the verifier's side. -/
import Derived.Test.YtfakbgdeeifnkaaOrdM
import Derived.Test.YtfakbgdeeifnkaaRefV
import Derived.Test.YtfakbgdeeifnkaaCurT
import Derived.Deep.RegionHeld3
namespace Go.Proofs.Ytfakbgdeeifnkaa
open Go.RowKit
set_option linter.unusedSimpArgs false

/-- Block b holds two curves and three numbers, and may be written. -/
structure Dif (w : World) (b : Nat) (x0 x1 x2 y0 y1 y2 z0 z1 z2 : Value) : Prop where
  lo : Cur3 w b x0 x1 x2
  c3 : w.cell? ⟨b, 3, none⟩ = some y0
  c4 : w.cell? ⟨b, 4, none⟩ = some y1
  c5 : w.cell? ⟨b, 5, none⟩ = some y2
  c6 : w.cell? ⟨b, 6, none⟩ = some z0
  c7 : w.cell? ⟨b, 7, none⟩ = some z1
  c8 : w.cell? ⟨b, 8, none⟩ = some z2
  f3 : w.frozen? ⟨b, 3, none⟩ = false
  f4 : w.frozen? ⟨b, 4, none⟩ = false
  f5 : w.frozen? ⟨b, 5, none⟩ = false
  f6 : w.frozen? ⟨b, 6, none⟩ = false
  f7 : w.frozen? ⟨b, 7, none⟩ = false
  f8 : w.frozen? ⟨b, 8, none⟩ = false
section
variable {w w' : World} {b : Nat} {x0 x1 x2 y0 y1 y2 z0 z1 z2 : Value}
theorem Dif.lt (h : Dif w b x0 x1 x2 y0 y1 y2 z0 z1 z2) : b < w.heap.size := h.lo.lt
theorem Dif.below (h : Dif w b x0 x1 x2 y0 y1 y2 z0 z1 z2) (hb : Below w.heap.size w w') : Dif w' b x0 x1 x2 y0 y1 y2 z0 z1 z2 :=
  ⟨h.lo.below hb, (hb.cell (p := ⟨b, 3, none⟩) h.lt).trans h.c3, (hb.cell (p := ⟨b, 4, none⟩) h.lt).trans h.c4, (hb.cell (p := ⟨b, 5, none⟩) h.lt).trans h.c5,
    (hb.cell (p := ⟨b, 6, none⟩) h.lt).trans h.c6, (hb.cell (p := ⟨b, 7, none⟩) h.lt).trans h.c7, (hb.cell (p := ⟨b, 8, none⟩) h.lt).trans h.c8,
    (hb.frozen (p := ⟨b, 3, none⟩) h.lt).trans h.f3, (hb.frozen (p := ⟨b, 4, none⟩) h.lt).trans h.f4, (hb.frozen (p := ⟨b, 5, none⟩) h.lt).trans h.f5,
    (hb.frozen (p := ⟨b, 6, none⟩) h.lt).trans h.f6, (hb.frozen (p := ⟨b, 7, none⟩) h.lt).trans h.f7, (hb.frozen (p := ⟨b, 8, none⟩) h.lt).trans h.f8⟩
theorem Dif.alloc (h : Dif w b x0 x1 x2 y0 y1 y2 z0 z1 z2) (o : Obj) : Dif (w.alloc o) b x0 x1 x2 y0 y1 y2 z0 z1 z2 := h.below ((Below.refl _ _).alloc (Nat.le_refl _) o)
theorem Dif.drewN (h : Dif w b x0 x1 x2 y0 y1 y2 z0 z1 z2) (n : Nat) : Dif (w.drewN n) b x0 x1 x2 y0 y1 y2 z0 z1 z2 := h.below ((Below.refl _ _).drewN n)
theorem Dif.dr (h : Dif w b x0 x1 x2 y0 y1 y2 z0 z1 z2) (hd : ∃ m, w' = w.drewN m) : Dif w' b x0 x1 x2 y0 y1 y2 z0 z1 z2 := by obtain ⟨m, rfl⟩ := hd; exact h.drewN m
theorem Dif.other (h : Dif w b x0 x1 x2 y0 y1 y2 z0 z1 z2) {q : Nat} (hq : ¬ b = q) (i : Nat) (v : Value) : Dif (w.setCell ⟨q, i, none⟩ v) b x0 x1 x2 y0 y1 y2 z0 z1 z2 := by
  have hb : (w.setCell ⟨q, i, none⟩ v).heap[b]? = w.heap[b]? := Below.heap_setCell _ _ _ _ hq
  exact ⟨h.lo.other hq i v, (World.cell?_of_block (w := w) (a := ⟨b, 3, none⟩) hb).trans h.c3, (World.cell?_of_block (w := w) (a := ⟨b, 4, none⟩) hb).trans h.c4, (World.cell?_of_block (w := w) (a := ⟨b, 5, none⟩) hb).trans h.c5,
    (World.cell?_of_block (w := w) (a := ⟨b, 6, none⟩) hb).trans h.c6, (World.cell?_of_block (w := w) (a := ⟨b, 7, none⟩) hb).trans h.c7, (World.cell?_of_block (w := w) (a := ⟨b, 8, none⟩) hb).trans h.c8,
    (World.frozen?_of_block (w := w) (a := ⟨b, 3, none⟩) hb).trans h.f3, (World.frozen?_of_block (w := w) (a := ⟨b, 4, none⟩) hb).trans h.f4, (World.frozen?_of_block (w := w) (a := ⟨b, 5, none⟩) hb).trans h.f5,
    (World.frozen?_of_block (w := w) (a := ⟨b, 6, none⟩) hb).trans h.f6, (World.frozen?_of_block (w := w) (a := ⟨b, 7, none⟩) hb).trans h.f7, (World.frozen?_of_block (w := w) (a := ⟨b, 8, none⟩) hb).trans h.f8⟩
theorem Dif.set6 (h : Dif w b x0 x1 x2 y0 y1 y2 z0 z1 z2) (v : Value) : Dif (w.setCell ⟨b, 6, none⟩ v) b x0 x1 x2 y0 y1 y2 v z1 z2 := by
  obtain ⟨⟨c0, c1, c2, f0, f1, f2⟩, c3, c4, c5, c6, c7, c8, f3, f4, f5, f6, f7, f8⟩ := h
  exact ⟨⟨by go_simp, by go_simp, by go_simp, by go_simp, by go_simp, by go_simp⟩, by go_simp, by go_simp, by go_simp, by go_simp, by go_simp, by go_simp, by go_simp, by go_simp, by go_simp, by go_simp, by go_simp, by go_simp⟩
theorem Dif.set7 (h : Dif w b x0 x1 x2 y0 y1 y2 z0 z1 z2) (v : Value) : Dif (w.setCell ⟨b, 7, none⟩ v) b x0 x1 x2 y0 y1 y2 z0 v z2 := by
  obtain ⟨⟨c0, c1, c2, f0, f1, f2⟩, c3, c4, c5, c6, c7, c8, f3, f4, f5, f6, f7, f8⟩ := h
  exact ⟨⟨by go_simp, by go_simp, by go_simp, by go_simp, by go_simp, by go_simp⟩, by go_simp, by go_simp, by go_simp, by go_simp, by go_simp, by go_simp, by go_simp, by go_simp, by go_simp, by go_simp, by go_simp, by go_simp⟩
theorem Dif.set8 (h : Dif w b x0 x1 x2 y0 y1 y2 z0 z1 z2) (v : Value) : Dif (w.setCell ⟨b, 8, none⟩ v) b x0 x1 x2 y0 y1 y2 z0 z1 v := by
  obtain ⟨⟨c0, c1, c2, f0, f1, f2⟩, c3, c4, c5, c6, c7, c8, f3, f4, f5, f6, f7, f8⟩ := h
  exact ⟨⟨by go_simp, by go_simp, by go_simp, by go_simp, by go_simp, by go_simp⟩, by go_simp, by go_simp, by go_simp, by go_simp, by go_simp, by go_simp, by go_simp, by go_simp, by go_simp, by go_simp, by go_simp, by go_simp⟩
theorem dif_new (w : World) (x0 x1 x2 y0 y1 y2 z0 z1 z2 : Value) (t : TypeId) : Dif (w.alloc (.cells #[x0, x1, x2, y0, y1, y2, z0, z1, z2] t)) w.heap.size x0 x1 x2 y0 y1 y2 z0 z1 z2 :=
  ⟨⟨by go_simp, by go_simp, by go_simp, by go_simp, by go_simp, by go_simp⟩, by go_simp, by go_simp, by go_simp, by go_simp, by go_simp, by go_simp, by go_simp, by go_simp, by go_simp, by go_simp, by go_simp, by go_simp⟩
end

/-- What a drawn region keeps of such a block. -/
abbrev DifS (W : World) (b : Nat) (x0 x1 x2 y0 y1 y2 z0 z1 z2 : Value) (u : World) : Prop :=
  u.cell? ⟨b, 0, none⟩ = some x0 ∧ u.cell? ⟨b, 1, none⟩ = some x1 ∧ u.cell? ⟨b, 2, none⟩ = some x2 ∧ u.cell? ⟨b, 3, none⟩ = some y0 ∧ u.cell? ⟨b, 4, none⟩ = some y1 ∧ u.cell? ⟨b, 5, none⟩ = some y2 ∧
  u.cell? ⟨b, 6, none⟩ = some z0 ∧ u.cell? ⟨b, 7, none⟩ = some z1 ∧ u.cell? ⟨b, 8, none⟩ = some z2 ∧ Hid (Below W.heap.size W u ∧ Dif u b x0 x1 x2 y0 y1 y2 z0 z1 z2)
section
variable {W u v : World} {b : Nat} {x0 x1 x2 y0 y1 y2 z0 z1 z2 : Value}
theorem difs_s (h : Dif u b x0 x1 x2 y0 y1 y2 z0 z1 z2) (hb : Below W.heap.size W u) : DifS W b x0 x1 x2 y0 y1 y2 z0 z1 z2 u := ⟨h.lo.c0, h.lo.c1, h.lo.c2, h.c3, h.c4, h.c5, h.c6, h.c7, h.c8, hb, h⟩
theorem difs_below (h : DifS W b x0 x1 x2 y0 y1 y2 z0 z1 z2 u) : Below W.heap.size W u := h.2.2.2.2.2.2.2.2.2.out.1
theorem difs_dif (h : DifS W b x0 x1 x2 y0 y1 y2 z0 z1 z2 u) : Dif u b x0 x1 x2 y0 y1 y2 z0 z1 z2 := h.2.2.2.2.2.2.2.2.2.out.2
theorem difs_drew (h : Dif W b x0 x1 x2 y0 y1 y2 z0 z1 z2) : DifS W b x0 x1 x2 y0 y1 y2 z0 z1 z2 W.drew := difs_s (h.below (Below.refl _ _).drew) (Below.refl _ _).drew
theorem difs_call (h : DifS W b x0 x1 x2 y0 y1 y2 z0 z1 z2 u) (hb : Below u.heap.size u v) : DifS W b x0 x1 x2 y0 y1 y2 z0 z1 z2 v :=
  difs_s ((difs_dif h).below hb) ((difs_below h).trans (hb.mono (difs_below h).size))
end

/-- The difference of two curves, as it is handed on. -/
abbrev difV (a : Option Addr) (n cap : Nat) (p inc : Int) (a2 : Option Addr) (n2 cap2 : Nat) (q jnc : Int) (S L c : Int) : Value :=
  .agg #[.slice a n cap, .int .i64 p, .int .i64 inc, .slice a2 n2 cap2, .int .i64 q, .int .i64 jnc, .int .i64 S, .int .i64 L, .int .i64 c]

end Go.Proofs.Ytfakbgdeeifnkaa
