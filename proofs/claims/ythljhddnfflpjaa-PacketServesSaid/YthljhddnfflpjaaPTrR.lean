/- Cumulative of package trace. By the verifier's side. -/
import Derived.Test.YthljhddnfflpjaaPTrPTrQ
import Derived.Laws.MakeOwn
import Derived.Deep.RegionHeld3
import Derived.OrdersIn
import Derived.TacticsIn
import Derived.RangeFuncCalls
namespace Go.Proofs.Ythljhddnfflpjaa
open Go.RowKit Go.Shelf
set_option linter.unusedSimpArgs false
set_option linter.unusedVariables false
attribute [local go_sem] Oper.semAt_some

theorem BB.drew {n b : Nat} {A B : World} (h : BB n b A B) : BB n b A B.drew := ⟨h.os, h.tape, h.output, h.size, h.block⟩
/-- A block of N sums. -/
def SumB (W : World) (M N : Nat) (F : Nat → Int) : Prop := ∃ cs, W.heap[M]? = some (.cells cs 3 (0, 0)) ∧ cs.size = N ∧ ∀ k, k < N → cs[k]? = some (.int .i64 (F k))
section
variable {W V : World} {M N : Nat} {F G : Nat → Int}
theorem SumB.lt (h : SumB W M N F) : M < W.heap.size := by obtain ⟨cs, h1, _⟩ := h; exact (Array.getElem?_eq_some_iff.1 h1).1
theorem SumB.cell (h : SumB W M N F) {k : Nat} (hk : k < N) : W.cell? ⟨M, k, none⟩ = some (.int .i64 (F k)) := by
  obtain ⟨cs, h1, h2, h3⟩ := h
  rw [← h3 k hk]; simp [World.cell?, h1]
theorem SumB.frozen (h : SumB W M N F) (o : Nat) : W.frozen? ⟨M, o, none⟩ = false := by
  obtain ⟨cs, h1, h2, h3⟩ := h
  simp [World.frozen?, h1]
theorem SumB.of_block (h : SumB W M N F) (hb : V.heap[M]? = W.heap[M]?) : SumB V M N F := by obtain ⟨cs, h1, h2⟩ := h; exact ⟨cs, hb.trans h1, h2⟩
theorem SumB.under (h : SumB W M N F) (hb : Below W.heap.size W V) : SumB V M N F := h.of_block (hb.block _ h.lt)
theorem SumB.alloc (h : SumB W M N F) (o : Obj) : SumB (W.alloc o) M N F := h.under ((Below.refl _ _).alloc (Nat.le_refl _) _)
theorem SumB.congr (h : SumB W M N F) (he : ∀ k, k < N → F k = G k) : SumB W M N G := by obtain ⟨cs, h1, h2, h3⟩ := h; exact ⟨cs, h1, h2, fun k hk => by rw [h3 k hk, he k hk]⟩
theorem SumB.set (h : SumB W M N F) {j : Nat} (hj : j < N) (v : Int) : SumB (W.setCell ⟨M, j, none⟩ (.int .i64 v)) M N (fun k => if k = j then v else F k) := by
  obtain ⟨cs, h1, h2, h3⟩ := h
  refine ⟨cs.setIfInBounds j (.int .i64 v), by simp [World.setCell, Array.getElem?_modify, h1], by simpa using h2, fun k hk => ?_⟩
  show _ = some (Value.int .i64 (if k = j then v else F k))
  by_cases e : k = j
  · subst e; rw [if_pos rfl, Array.getElem?_setIfInBounds_self_of_lt (by omega)]
  · rw [if_neg e, Array.getElem?_setIfInBounds_ne (fun h => e h.symm)]; exact h3 k hk
theorem SumB.made (W : World) (N : Nat) : SumB (W.alloc (.cells (madeCells #[.int .i64 0] N) 3)) W.heap.size N (fun _ => 0) :=
  ⟨_, World.alloc_heap_new W _, size_madeCells _ _, fun k hk => by simp [madeCells, hk, Nat.mod_one]⟩
end
theorem make13 (N : Nat) (hN : N ≤ 4096) (w : World) : (Instr.makeSlice 22 (.int .i64 (N : Int)) (.int .i64 (N : Int))).run Try.prog w = .ok (.slice (some ⟨w.heap.size, 0, none⟩) N N) (w.alloc (.cells (madeCells #[.int .i64 0] N) 3)) := by
  obtain ⟨i0, hi, hz0, hz1, hz2⟩ := info_parts info_int
  have := run_make (P := Try.prog) w 22 3 i0 _ Try.underlying22 hi hz0 .i64 .i64 (N : Int) (N : Int) (by omega) (by omega) (by rw [hz2]; omega) (by omega)
  rw [hz1] at this
  simp only [Int.toNat_natCast, Nat.mul_one] at this
  exact this

theorem byt_bd {l : List Pk} (h : ∀ q ∈ l, okP q = true) (hl : l.length ≤ 60) (t : Int) : 0 ≤ sumG (bytT t) l ∧ sumG (bytT t) l ≤ 90000 := by
  constructor
  · have := sumG_mono (fun _ => 0) (bytT t) l (fun q hq => by unfold bytT; have := (okP_iff q).1 (h q hq); split <;> omega)
    rw [sumG_zero] at this; exact this
  · have := sumG_bound (bytT t) 1500 l (fun q hq => by unfold bytT; have := (okP_iff q).1 (h q hq); split <;> omega)
    have h2 : ((l.length : Int)) * 1500 ≤ 90000 := by omega
    omega
theorem vcode_ok {l : List Pk} (h : vcode l = 0) : l.length ≤ 60 ∧ (∀ q ∈ l, okP q = true) ∧ Asc l := by
  unfold vcode at h
  by_cases c : 60 < l.length
  · rw [if_pos c] at h; omega
  · rw [if_neg c, vgo_ok 2 7 (by decide) (by decide)] at h
    exact ⟨by omega, fun q hq => (h.1 q hq).1, h.2⟩
theorem vcode_of {l : List Pk} (h1 : l.length ≤ 60) (h2 : ∀ q ∈ l, okP q = true) (h3 : Asc l) : vcode l = 0 := by
  unfold vcode
  rw [if_neg (by omega), vgo_ok 2 7 (by decide) (by decide)]
  exact ⟨fun q hq => ⟨h2 q hq, by have := (okP_iff q).1 (h2 q hq); omega⟩, h3⟩

end Go.Proofs.Ythljhddnfflpjaa
