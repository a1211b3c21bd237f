/- The walk of CurveNormal. By the verifier's side. -/
import Derived.Test.YtladmpoopfabdaaCurW
import Derived.Test.YtladmpoopfabdaaCurT
import Derived.Test.YtladmpoopfabdaaCurU
namespace Go.Proofs.Ytladmpoopfabdaa
open Go.RowKit
set_option linter.unusedSimpArgs false

theorem RowZ.apart {w w' : World} {a : Option Addr} {n cap b : Nat} {zs : List Int} (h : RowZ w a n cap zs) (ha : Apart b w w') (hx : ∀ x, a = some x → ¬ x.block = b) : RowZ w' a n cap zs :=
  ⟨h.len, h.le, h.sm, h.cm, fun i hi => by
    obtain ⟨x, h1, h2⟩ := h.cell i hi
    have hl := lt_of_cell h2
    rw [add_block] at hl
    exact ⟨x, h1, (World.cell?_of_block (w := w) (ha.block _ (by rw [add_block]; exact hl) (by rw [add_block]; exact hx x h1))).trans h2⟩, h.bd⟩

/-- The first box's cells, and the reader. -/
abbrev HdS (W : World) (F : Nat) (x0 x1 x2 : Value) (b : Nat) (a : Option Addr) (n cap : Nat) (w' : World) : Prop :=
  w'.cell? ⟨F, 0, none⟩ = some x0 ∧ w'.cell? ⟨F, 1, none⟩ = some x1 ∧ w'.cell? ⟨F, 2, none⟩ = some x2 ∧ Hid (Cur3 W F x0 x1 x2 ∧ ¬ F = b ∧ b < W.heap.size ∧ Held W b a n cap w')
section
variable {W u v : World} {F : Nat} {x0 x1 x2 : Value} {b : Nat} {a : Option Addr} {n cap : Nat}
theorem hd_mk (h : Held W b a n cap u) (hF : ¬ F = b) (hb : b < W.heap.size) (hc : Cur3 W F x0 x1 x2) : HdS W F x0 x1 x2 b a n cap u :=
  have k := hc.apart h.ap hF
  ⟨k.c0, k.c1, k.c2, hc, hF, hb, h⟩
theorem hd_of (h : HdS W F x0 x1 x2 b a n cap u) : Held W b a n cap u := h.2.2.2.out.2.2.2
theorem hd_call (h : HdS W F x0 x1 x2 b a n cap u) (hs : SrcAt v b a n cap) (he : Else b u v) : HdS W F x0 x1 x2 b a n cap v :=
  hd_mk ((hd_of h).call hs he.apart) h.2.2.2.out.2.1 h.2.2.2.out.2.2.1 h.2.2.2.out.1
theorem hd_below (h : HdS W F x0 x1 x2 b a n cap u) (hb : Below u.heap.size u v) : HdS W F x0 x1 x2 b a n cap v :=
  hd_mk ((hd_of h).below hb) h.2.2.2.out.2.1 h.2.2.2.out.2.2.1 h.2.2.2.out.1
theorem hd_alloc (h : HdS W F x0 x1 x2 b a n cap u) (o : Obj) : HdS W F x0 x1 x2 b a n cap (u.alloc o) :=
  hd_mk ((hd_of h).alloc o) h.2.2.2.out.2.1 h.2.2.2.out.2.2.1 h.2.2.2.out.1
theorem hd_allocD (h : HdS W F x0 x1 x2 b a n cap u.drew) (o : Obj) : HdS W F x0 x1 x2 b a n cap (u.alloc o).drew := hd_alloc (u := u.drew) h o
theorem hd_set (h : HdS W F x0 x1 x2 b a n cap u) {K : Nat} (hK : W.heap.size ≤ K) (y0 y1 y2 : Value) : HdS W F x0 x1 x2 b a n cap (((u.setCell ⟨K, 0, none⟩ y0).setCell ⟨K, 1, none⟩ y1).setCell ⟨K, 2, none⟩ y2) :=
  hd_mk ((((hd_of h).set h.2.2.2.out.2.2.1 (p := ⟨K, 0, none⟩) hK y0).set h.2.2.2.out.2.2.1 (p := ⟨K, 1, none⟩) hK y1).set h.2.2.2.out.2.2.1 (p := ⟨K, 2, none⟩) hK y2) h.2.2.2.out.2.1 h.2.2.2.out.2.2.1 h.2.2.2.out.1
theorem hd_swap {o : Obj} (h : HdS W F x0 x1 x2 b a n cap (u.alloc o)) (hu : W.heap.size ≤ u.heap.size) (o' : Obj) : HdS W F x0 x1 x2 b a n cap (u.alloc o') := by
  have e : ∀ k, k < W.heap.size → (u.alloc o').heap[k]? = (u.alloc o).heap[k]? := fun k hk => by
    have h1 := ((Below.refl u.heap.size u).alloc (Nat.le_refl _) o).block k (by omega)
    have h2 := ((Below.refl u.heap.size u).alloc (Nat.le_refl _) o').block k (by omega)
    exact h2.trans h1.symm
  obtain ⟨hs, ha⟩ := hd_of h
  have hb := h.2.2.2.out.2.2.1
  refine hd_mk ⟨?_, ⟨ha.os, ha.tape, ha.output, by have := ha.size; simp at this ⊢; exact this, fun k hk hkb => (e k hk).trans (ha.block k hk hkb)⟩⟩ h.2.2.2.out.2.1 hb h.2.2.2.out.1
  obtain ⟨k, hk, hs⟩ := hs
  exact ⟨k, hk, (e b hb).trans hs⟩
end

theorem norm_le {zs zs' : List Int} {p p' : Nat} {inc inc' : Int} (g : Good zs p inc) (h : NormC zs p inc zs' p' inc') : zs'.length ≤ zs.length ∧ p' ≤ p := by
  have := g.p1
  rcases h with ⟨_, s0, hn, rfl, hle, hpp⟩ | ⟨i, hi, he, _, rfl, rfl, _⟩
  · exact ⟨by rw [List.length_take]; omega, hpp⟩
  · exact ⟨by rw [List.length_take]; omega, this⟩

end Go.Proofs.Ytladmpoopfabdaa
