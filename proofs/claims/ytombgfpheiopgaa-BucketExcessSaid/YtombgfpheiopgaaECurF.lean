/- Contract of curve.reduced at finite curves, and of curve.Normal. By the verifier's side. -/
import Derived.Test.YtombgfpheiopgaaECurCGrowCurDCurE
namespace Go.Proofs.Ytombgfpheiopgaa
open Go.RowKit
set_option linter.unusedSimpArgs false

theorem Cur3.dr {w w' : World} {b : Nat} {x0 x1 x2 : Value} (h : Cur3 w b x0 x1 x2) (hd : ∃ m, w' = w.drewN m) : Cur3 w' b x0 x1 x2 := by
  obtain ⟨m, rfl⟩ := hd; exact h.drewN m
theorem RowZ.dr {w w' : World} {a : Option Addr} {n cap : Nat} {zs : List Int} (h : RowZ w a n cap zs) (hd : ∃ m, w' = w.drewN m) : RowZ w' a n cap zs := by
  obtain ⟨m, rfl⟩ := hd; exact h.drewN m
theorem below_dr {B : Nat} {u w w' : World} (h : Below B u w) (hd : ∃ m, w' = w.drewN m) : Below B u w' := by
  obtain ⟨m, rfl⟩ := hd; exact h.drewN m

end Go.Proofs.Ytombgfpheiopgaa
