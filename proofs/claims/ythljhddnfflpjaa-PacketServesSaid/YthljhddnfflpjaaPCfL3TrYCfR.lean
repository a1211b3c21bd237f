/- Curve and FromZero of package periodic at the period 1, for whatever closure with one variable that makes memory. By the verifier's side. -/
import Derived.Test.YthljhddnfflpjaaPPwBPwCPwD
import Derived.Test.YthljhddnfflpjaaPCfM
import Derived.Test.YthljhddnfflpjaaPTrA
import Derived.Test.YthljhddnfflpjaaPTrR
import Derived.Deep.RegionHeld3
import Derived.OrdersIn
import Derived.TacticsIn
import Derived.RangeFuncCalls
import Derived.Test.YthljhddnfflpjaaPPwA
import Derived.Test.YthljhddnfflpjaaPRTrARTrB
import Derived.Deep.DeepAppendRoom
import Derived.Test.YthljhddnfflpjaaPCurBCurV
import Derived.Test.YthljhddnfflpjaaPRTrG
import Derived.Test.YthljhddnfflpjaaPTrM
import Derived.Test.YthljhddnfflpjaaPTrXTrV
import Derived.Test.YthljhddnfflpjaaPTrSTrTTrU
namespace Go.Proofs.Ythljhddnfflpjaa
open Go.RowKit
set_option linter.unusedSimpArgs false
set_option linter.unusedVariables false

theorem Mk1.bel {w : World} {F : Nat → Int} {S lb m k r : Nat} {D : Int} {wx w' : World} (h : Mk1 w F S lb m k r D wx) (hb : Below wx.heap.size wx w') : Mk1 w F S lb m k r D w' :=
  ⟨h.box.below hb, h.res.below hb, fun i hi => ⟨(hb.cell (lt_of_cell (h.row i hi).1)).trans (h.row i hi).1, (hb.frozen (lt_of_cell (h.row i hi).1)).trans (h.row i hi).2⟩, h.below.trans (hb.mono h.below.size)⟩

end Go.Proofs.Ythljhddnfflpjaa

namespace Go.Proofs.Ythljhddnfflpjaa
open Go.RowKit
set_option linter.unusedSimpArgs false
set_option linter.unusedVariables false

theorem sel_all (l : List Pk) : sel (-1) l = l := by
  unfold sel
  rw [List.filter_eq_self]
  intro q _
  rw [ofFlow_nn (by omega)]
  exact decide_eq_true (.inl rfl)
end Go.Proofs.Ythljhddnfflpjaa

namespace Go.Proofs.Ythljhddnfflpjaa
open Go.RowKit
set_option linter.unusedSimpArgs false
set_option linter.unusedVariables false

theorem sel_okP {l : List Pk} (h : ∀ q ∈ l, okP q = true) (fl : Int) : ∀ q ∈ sel fl l, okP q = true := fun q hq => h q (List.mem_filter.1 hq).1
theorem part_bd {l : List Pk} (hv : vcode l = 0) (fl : Int) (k : Int) : 0 ≤ sumG (bytT k) (sel fl l) ∧ sumG (bytT k) (sel fl l) ≤ 90000 :=
  byt_bd (sel_okP (vcode_ok hv).2.1 fl) (Nat.le_trans (sel_le fl l) (vcode_ok hv).1) k
/-- The sums that a list of a trace shows. -/
theorem RowZ.sums {w : World} {a : Option Addr} {n cap : Nat} {fl : Int} {l : List Pk} (h : RowZ w a n cap (sumsL fl 101 l)) : n = 101 := by
  rw [← h.len, sumsL_len]
theorem RowZ.sum {w : World} {a : Option Addr} {cap : Nat} {fl : Int} {l : List Pk} (h : RowZ w a 101 cap (sumsL fl 101 l)) {k : Nat} (hk : k < 101) : ∃ x, a = some x ∧ w.cell? (x.add k) = some (.int .i64 (sumG (bytT (k : Int)) (sel fl l))) := by
  obtain ⟨x, h1, h2⟩ := h.cell k hk
  exact ⟨x, h1, by rw [h2, sumsL_at fl 101 l hk]⟩

end Go.Proofs.Ythljhddnfflpjaa
