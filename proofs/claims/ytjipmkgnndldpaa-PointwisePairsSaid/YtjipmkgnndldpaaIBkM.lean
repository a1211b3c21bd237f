/- The mathematics of token buckets and staircases: what they let pass in so many ticks, its period, and how great an excess is. Nothing here speaks of the program. By the verifier's side. -/
import Derived.Test.YtjipmkgnndldpaaIPwMPwOPwXR56M
namespace Go.Proofs.Ytjipmkgnndldpaa

/-- What a token bucket lets pass in k ticks. -/
def tokN (bn bd rn rd k : Nat) : Nat := if k = 0 then 0 else (bn * rd + rn * (k - 1) * bd) / (bd * rd)
def tokF (bn bd rn rd k : Nat) : Int := (tokN bn bd rn rd k : Nat)
def tokE (bn bd rn rd k : Nat) : Option Int := some (tokF bn bd rn rd k)
end Go.Proofs.Ytjipmkgnndldpaa
