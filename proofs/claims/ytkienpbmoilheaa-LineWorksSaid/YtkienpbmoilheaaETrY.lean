/- The sums of two traces and of their merged one. By the verifier's side. -/
import Derived.Test.YtkienpbmoilheaaETrX
import Derived.Test.YtkienpbmoilheaaETrSTrTTrU
namespace Go.Proofs.Ytkienpbmoilheaa
open Go.RowKit
set_option linter.unusedSimpArgs false
set_option linter.unusedVariables false

theorem sel_okP {l : List Pk} (h : ∀ q ∈ l, okP q = true) (fl : Int) : ∀ q ∈ sel fl l, okP q = true := fun q hq => h q (List.mem_filter.1 hq).1
theorem part_bd {l : List Pk} (hv : vcode l = 0) (fl : Int) (k : Int) : 0 ≤ sumG (bytT k) (sel fl l) ∧ sumG (bytT k) (sel fl l) ≤ 90000 :=
  byt_bd (sel_okP (vcode_ok hv).2.1 fl) (Nat.le_trans (sel_le fl l) (vcode_ok hv).1) k
/-- The sums that a list of a trace shows. -/
theorem RowZ.sums {w : World} {a : Option Addr} {n cap : Nat} {fl : Int} {l : List Pk} (h : RowZ w a n cap (sumsL fl 101 l)) : n = 101 := by
  rw [← h.len, sumsL_len]
end Go.Proofs.Ytkienpbmoilheaa
