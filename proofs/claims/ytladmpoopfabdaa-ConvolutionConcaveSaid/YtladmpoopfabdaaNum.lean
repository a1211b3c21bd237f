/- Contracts of package fraction: magnitude, divisor, New. By the verifier's side. -/
import Derived.Test.YtladmpoopfabdaaApart
import Derived.Test.YtladmpoopfabdaaMath
import Derived.LoopTactic
import Derived.BigRegion
import Derived.Laws.ResultCell
namespace Go.Proofs.Ytladmpoopfabdaa
open Go.RowKit

theorem gcd_step (x y : Nat) : y.gcd (x % y) = x.gcd y := by rw [Nat.gcd_comm, ← Nat.gcd_rec, Nat.gcd_comm]

/-- A fraction and an error's number are handed back; nothing that was there has turned. -/
def Gave (r : Int × Int × Int) (w : World) (e : Ending) (w' : World) : Prop :=
  e = .returned (.tuple #[.agg #[.int .i64 r.1, .int .i64 r.2.1], .int .i64 r.2.2]) ∧ Below w.heap.size w w'

theorem newF_zero (num : Int) : newF num 0 = (0, 0, 2) := by simp [newF]

/-- The two ways by the terms' sizes, and the two by the signs. -/
theorem newF_big {num den : Int} {n d g : Nat} (h0 : ¬ den = 0) (hn : num.natAbs = n) (hd : den.natAbs = d) (hg : Nat.gcd n d = g) (h : 1073741824 < n / g ∨ 1073741824 < d / g) : newF num den = (0, 0, 3) := by
  subst hn hd hg
  unfold newF lim
  rw [if_neg h0, if_pos h]
theorem newF_fit {num den : Int} {n d g : Nat} (h0 : ¬ den = 0) (hn : num.natAbs = n) (hd : den.natAbs = d) (hg : Nat.gcd n d = g) (h1 : n / g ≤ 1073741824) (h2 : d / g ≤ 1073741824) :
    newF num den = (if decide (num < 0) = decide (den < 0) then ((n / g : Nat) : Int) else -((n / g : Nat) : Int), ((d / g : Nat) : Int), 0) := by
  subst hn hd hg
  unfold newF lim
  rw [if_neg h0, if_neg (by omega)]

end Go.Proofs.Ytladmpoopfabdaa
