/- Cumulative of package trace. By the verifier's side. -/
import Derived.Test.YthljhddnfflpjaaCTrPTrQ
import Derived.Laws.MakeOwn
import Derived.Deep.RegionHeld3
import Derived.OrdersIn
import Derived.TacticsIn
import Derived.RangeFuncCalls
namespace Go.Proofs.Ythljhddnfflpjaa
open Go.RowKit Go.Shelf
set_option linter.unusedSimpArgs false
set_option linter.unusedVariables false
attribute [local go_sem] Oper.semAt_some

theorem BB.drew {n b : Nat} {A B : World} (h : BB n b A B) : BB n b A B.drew := ⟨h.os, h.tape, h.output, h.size, h.block⟩
section
variable {W V : World} {M N : Nat} {F G : Nat → Int}
end
theorem byt_bd {l : List Pk} (h : ∀ q ∈ l, okP q = true) (hl : l.length ≤ 60) (t : Int) : 0 ≤ sumG (bytT t) l ∧ sumG (bytT t) l ≤ 90000 := by
  constructor
  · have := sumG_mono (fun _ => 0) (bytT t) l (fun q hq => by unfold bytT; have := (okP_iff q).1 (h q hq); split <;> omega)
    rw [sumG_zero] at this; exact this
  · have := sumG_bound (bytT t) 1500 l (fun q hq => by unfold bytT; have := (okP_iff q).1 (h q hq); split <;> omega)
    have h2 : ((l.length : Int)) * 1500 ≤ 90000 := by omega
    omega
theorem vcode_ok {l : List Pk} (h : vcode l = 0) : l.length ≤ 60 ∧ (∀ q ∈ l, okP q = true) ∧ Asc l := by
  unfold vcode at h
  by_cases c : 60 < l.length
  · rw [if_pos c] at h; omega
  · rw [if_neg c, vgo_ok 2 7 (by decide) (by decide)] at h
    exact ⟨by omega, fun q hq => (h.1 q hq).1, h.2⟩
theorem vcode_of {l : List Pk} (h1 : l.length ≤ 60) (h2 : ∀ q ∈ l, okP q = true) (h3 : Asc l) : vcode l = 0 := by
  unfold vcode
  rw [if_neg (by omega), vgo_ok 2 7 (by decide) (by decide)]
  exact ⟨fun q hq => ⟨h2 q hq, by have := (okP_iff q).1 (h2 q hq); omega⟩, h3⟩

end Go.Proofs.Ythljhddnfflpjaa
