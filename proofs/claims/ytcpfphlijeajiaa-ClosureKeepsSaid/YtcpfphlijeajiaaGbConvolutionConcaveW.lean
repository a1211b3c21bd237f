/- The walk of ConvolutionConcave. By the verifier's side. -/
import Derived.Test.YtcpfphlijeajiaaGbConER
import Derived.Test.YtcpfphlijeajiaaGbBentE
import Derived.Test.YtcpfphlijeajiaaGbConK
namespace Go.Proofs.Ytcpfphlijeajiaa
open Go.RowKit
set_option linter.unusedSimpArgs false
set_option linter.unusedVariables false

/-- An array of two curves in a block. -/
structure Ar2 (w : World) (T : Nat) (a0 : Option Addr) (n0 k0 : Nat) (p0 i0 : Int) (a1 : Option Addr) (n1 k1 : Nat) (p1 i1 : Int) : Prop where
  c0 : w.cell? ⟨T, 0, none⟩ = some (.slice a0 n0 k0)
  c1 : w.cell? ⟨T, 1, none⟩ = some (.int .i64 p0)
  c2 : w.cell? ⟨T, 2, none⟩ = some (.int .i64 i0)
  c3 : w.cell? ⟨T, 3, none⟩ = some (.slice a1 n1 k1)
  c4 : w.cell? ⟨T, 4, none⟩ = some (.int .i64 p1)
  c5 : w.cell? ⟨T, 5, none⟩ = some (.int .i64 i1)
  f0 : w.frozen? ⟨T, 0, none⟩ = false
  f1 : w.frozen? ⟨T, 1, none⟩ = false
  f2 : w.frozen? ⟨T, 2, none⟩ = false
  f3 : w.frozen? ⟨T, 3, none⟩ = false
  f4 : w.frozen? ⟨T, 4, none⟩ = false
  f5 : w.frozen? ⟨T, 5, none⟩ = false

/-- A curve that is being made: its box at F, its row of its own at g. -/
structure Cv7 (w : World) (b : Nat) (a : Option Addr) (n cap F g N cap' : Nat) (zs : List Int) (wx : World) : Prop where
  held : Held w b a n cap wx
  box : Cur3 wx F (.slice (some ⟨g, 0, none⟩) N cap') (.int .i64 1) (.int .i64 0)
  row : wx.ownsRow w.heap.size 3 1 (.slice (some ⟨g, 0, none⟩) N cap') N (zs.map (Value.int .i64))
  len : zs.length = N
  bl : b < w.heap.size
  gb : w.heap.size ≤ F
  gG : ¬ g = F
section
variable {w u v : World} {b : Nat} {a : Option Addr} {n cap F g N cap' : Nat} {zs : List Int}
theorem Cv7.call (h : Cv7 w b a n cap F g N cap' zs u) (hs : SrcAt v b a n cap) (ha : Apart b u v) : Cv7 w b a n cap F g N cap' zs v := by
  have h1 := h.bl
  have h2 := h.gb
  exact ⟨h.held.call hs ha, h.box.apart ha (by omega), owns_apart h.row ha (by omega), h.len, h1, h2, h.gG⟩
theorem Cv7.alloc (h : Cv7 w b a n cap F g N cap' zs u) (o : Obj) : Cv7 w b a n cap F g N cap' zs (u.alloc o) := ⟨h.held.alloc o, h.box.alloc o, h.row.alloc o, h.len, h.bl, h.gb, h.gG⟩
theorem Cv7.drew (h : Cv7 w b a n cap F g N cap' zs u) : Cv7 w b a n cap F g N cap' zs u.drew := ⟨h.held.drew, h.box.drewL, h.row, h.len, h.bl, h.gb, h.gG⟩
theorem Cv7.glt (h : Cv7 w b a n cap F g N cap' zs u) : w.heap.size ≤ g := (h.row.lt g rfl).1
theorem Cv7.grow (h : Cv7 w b a n cap F g N cap' zs u) {l : Int} {g2 cap2 : Nat} {w1 : World}
    (hown : w1.ownsRow w.heap.size 3 1 (.slice (some ⟨g2, 0, none⟩) (N + 1) cap2) (N + 1) (zs.map (Value.int .i64) ++ [.int .i64 l])) (hgrow : u.grownBy w1 (Value.slice (some ⟨g, 0, none⟩) N cap').ownBlock) (hat : g2 = g ∨ g2 = u.heap.size) :
    Cv7 w b a n cap F g2 (N + 1) cap2 (zs ++ [l]) (w1.setCell ⟨F, 0, none⟩ (.slice (some ⟨g2, 0, none⟩) (N + 1) cap2)) := by
  have hg := h.glt
  have h1 := h.bl
  have h2 := h.gb
  have h3 := h.gG
  have hlt := h.box.lt
  have hl := h.len
  have hg2 : ¬ g2 = F := by
    rcases hat with e | e
    · rw [e]; exact h3
    · omega
  refine ⟨(h.held.grown h1 hgrow (fun j hj => by cases hj; show w.heap.size ≤ g; omega)).set h1 (p := ⟨F, 0, none⟩) (by show w.heap.size ≤ F; omega) _, (h.box.grownS hgrow h3).set0 _, ?_, by simp [hl], h1, h2, hg2⟩
  rw [List.map_append]; exact owns_ne (p := ⟨F, 0, none⟩) hown hg2 _
theorem Cv7.new (w : World) (h : SrcAt w b a n cap) : Cv7 w b a n cap (w.heap.size + 1) w.heap.size 1 1 [0] ((w.alloc (.cells #[.int .i64 0] 3)).alloc (.cells #[.slice (some ⟨w.heap.size, 0, none⟩) 1 1, .int .i64 1, .int .i64 0] 24)) := by
  have ho := made_own w w.heap.size 1 (Nat.le_refl _) (by omega)
  rw [show madeCells #[Value.int .i64 0] 1 = #[Value.int .i64 0] by simp [madeCells]; exact ⟨0, by decide, by simp⟩] at ho
  exact ⟨((Held.start h).alloc _).alloc _, Cur3.new2 _ _ _ _ _ _, ho.alloc _, rfl, h.lt, by omega, by omega⟩
end

section
variable {w w' : World} {T q : Nat} {a0 a1 : Option Addr} {n0 k0 n1 k1 : Nat} {p0 i0 p1 i1 : Int}
theorem Ar2.lt (h : Ar2 w T a0 n0 k0 p0 i0 a1 n1 k1 p1 i1) : T < w.heap.size := lt_of_cell h.c0
theorem Ar2.apart (h : Ar2 w T a0 n0 k0 p0 i0 a1 n1 k1 p1 i1) (ha : Apart q w w') (hq : T ≠ q) : Ar2 w' T a0 n0 k0 p0 i0 a1 n1 k1 p1 i1 := by
  obtain ⟨h1, h2⟩ := acell ha
  have l := h.lt
  exact ⟨(h1 T 0 l hq).trans h.c0, (h1 T 1 l hq).trans h.c1, (h1 T 2 l hq).trans h.c2, (h1 T 3 l hq).trans h.c3, (h1 T 4 l hq).trans h.c4, (h1 T 5 l hq).trans h.c5, (h2 T 0 l hq).trans h.f0, (h2 T 1 l hq).trans h.f1, (h2 T 2 l hq).trans h.f2, (h2 T 3 l hq).trans h.f3, (h2 T 4 l hq).trans h.f4, (h2 T 5 l hq).trans h.f5⟩
theorem Ar2.other (h : Ar2 w T a0 n0 k0 p0 i0 a1 n1 k1 p1 i1) (hq : T ≠ q) (i : Nat) (v : Value) : Ar2 (w.setCell ⟨q, i, none⟩ v) T a0 n0 k0 p0 i0 a1 n1 k1 p1 i1 := by
  have hb : (w.setCell ⟨q, i, none⟩ v).heap[T]? = w.heap[T]? := Below.heap_setCell _ _ _ _ hq
  have hc : ∀ j, (w.setCell ⟨q, i, none⟩ v).cell? ⟨T, j, none⟩ = w.cell? ⟨T, j, none⟩ := fun j => World.cell?_of_block (w := w) (a := ⟨T, j, none⟩) hb
  have hf : ∀ j, (w.setCell ⟨q, i, none⟩ v).frozen? ⟨T, j, none⟩ = w.frozen? ⟨T, j, none⟩ := fun j => World.frozen?_of_block (w := w) (a := ⟨T, j, none⟩) hb
  exact ⟨(hc 0).trans h.c0, (hc 1).trans h.c1, (hc 2).trans h.c2, (hc 3).trans h.c3, (hc 4).trans h.c4, (hc 5).trans h.c5, (hf 0).trans h.f0, (hf 1).trans h.f1, (hf 2).trans h.f2, (hf 3).trans h.f3, (hf 4).trans h.f4, (hf 5).trans h.f5⟩
end

/-- A made curve in a row behind the array. -/
structure Md (w : World) (T : Nat) (a : Option Addr) (n k : Nat) (p i : Int) (zs : List Int) : Prop where
  row : RowZ w a n k zs
  far : ∀ x, a = some x → T < x.block
  p1 : p = 1
  sink : Sink zs i
  few : zs.length ≤ 8

section
variable {w : World} {T : Nat} {a0 a1 : Option Addr} {n0 k0 n1 k1 : Nat} {p0 i0 p1 i1 : Int} {z0 z1 : List Int}
theorem Md.good (h : Md w T a0 n0 k0 p0 i0 z0) : Good z0 1 i0 := h.sink.good (by have := h.few; omega)
theorem Md.under {v : World} (h : Md w T a0 n0 k0 p0 i0 z0) (hb : Below w.heap.size w v) : Md v T a0 n0 k0 p0 i0 z0 := ⟨h.row.under hb, h.far, h.p1, h.sink, h.few⟩
end

end Go.Proofs.Ytcpfphlijeajiaa
