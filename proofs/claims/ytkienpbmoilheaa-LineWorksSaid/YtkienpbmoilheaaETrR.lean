/- Cumulative of package trace. By the verifier's side. -/
import Derived.Test.YtkienpbmoilheaaETrPTrQ
import Derived.Laws.MakeOwn
import Derived.Test.YtkienpbmoilheaaERegI
import Derived.OrdersIn
import Derived.TacticsIn
import Derived.RangeFuncCalls
namespace Go.Proofs.Ytkienpbmoilheaa
open Go.RowKit Go.Shelf
set_option linter.unusedSimpArgs false
set_option linter.unusedVariables false
attribute [local go_sem] Oper.semAt_some

theorem BB.drew {n b : Nat} {A B : World} (h : BB n b A B) : BB n b A B.drew := ⟨h.os, h.tape, h.output, h.size, h.block⟩
theorem keepV13 {listed : Array Bool} {i j : Nat} {V : Prop} (h : listed.getD j false = true → V) (hne : i ≠ j) : (listed.setIfInBounds i true).getD j false = true → V := fun hd => h (by rwa [getDf_ne hne] at hd)

section
variable {W V : World} {M N : Nat} {F G : Nat → Int}
end
theorem make13 (N : Nat) (hN : N ≤ 4096) (w : World) : (Instr.makeSlice 22 (.int .i64 (N : Int)) (.int .i64 (N : Int))).run Try.prog w = .ok (.slice (some ⟨w.heap.size, 0, none⟩) N N) (w.alloc (.cells (madeCells #[.int .i64 0] N) 3)) := by
  obtain ⟨i0, hi, hz0, hz1, hz2⟩ := info_parts info_int
  have := run_make (P := Try.prog) w 22 3 i0 _ Try.underlying22 hi hz0 .i64 .i64 (N : Int) (N : Int) (by omega) (by omega) (by rw [hz2]; omega) (by omega)
  rw [hz1] at this
  simp only [Int.toNat_natCast, Nat.mul_one] at this
  exact this

theorem byt_bd {l : List Pk} (h : ∀ q ∈ l, okP q = true) (hl : l.length ≤ 60) (t : Int) : 0 ≤ sumG (bytT t) l ∧ sumG (bytT t) l ≤ 90000 := by
  constructor
  · have := sumG_mono (fun _ => 0) (bytT t) l (fun q hq => by unfold bytT; have := (okP_iff q).1 (h q hq); split <;> omega)
    rw [sumG_zero] at this; exact this
  · have := sumG_bound (bytT t) 1500 l (fun q hq => by unfold bytT; have := (okP_iff q).1 (h q hq); split <;> omega)
    have h2 : ((l.length : Int)) * 1500 ≤ 90000 := by omega
    omega
theorem vcode_ok {l : List Pk} (h : vcode l = 0) : l.length ≤ 60 ∧ (∀ q ∈ l, okP q = true) ∧ Asc l := by
  unfold vcode at h
  by_cases c : 60 < l.length
  · rw [if_pos c] at h; omega
  · rw [if_neg c, vgo_ok 2 7 (by decide) (by decide)] at h
    exact ⟨by omega, fun q hq => (h.1 q hq).1, h.2⟩
theorem vcode_of {l : List Pk} (h1 : l.length ≤ 60) (h2 : ∀ q ∈ l, okP q = true) (h3 : Asc l) : vcode l = 0 := by
  unfold vcode
  rw [if_neg (by omega), vgo_ok 2 7 (by decide) (by decide)]
  exact ⟨fun q hq => ⟨h2 q hq, by have := (okP_iff q).1 (h2 q hq); omega⟩, h3⟩

end Go.Proofs.Ytkienpbmoilheaa
