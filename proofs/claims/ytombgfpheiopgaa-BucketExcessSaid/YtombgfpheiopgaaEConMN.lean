/- Mathematics of the convolution of two curves, without the program. By the verifier's side. | Mathematics of the certificates of a convolution, without the program. By the verifier's side. -/
import Derived.Test.YtombgfpheiopgaaEPwMPwOPwXR56M
namespace Go.Proofs.Ytombgfpheiopgaa
set_option linter.unusedVariables false

/-! ### The convolution of two functions with infinity -/

def convTo (a b : Nat → Option Int) (t : Nat) : Nat → Option Int
  | 0 => none
  | k + 1 => omin (convTo a b t k) (oadd (a k) (b (t - k)))
def oconv (a b : Nat → Option Int) (t : Nat) : Option Int := convTo a b t (t + 1)

variable {a b c a' b' : Nat → Option Int}

/-! ### Two finite functions -/

variable {x y C : Nat → Int} {sa sb L : Nat} {ra rb : Int}

/-! ### The convolution of two curves -/

variable {zs ys : List Int} {p q : Nat} {inc jnc : Int}

noncomputable def eConv (zs : List Int) (p : Nat) (inc : Int) (ys : List Int) (q : Nat) (jnc : Int) : Nat → Option Int := oconv (eC zs p inc) (eC ys q jnc)
end Go.Proofs.Ytombgfpheiopgaa

namespace Go.Proofs.Ytombgfpheiopgaa
set_option linter.unusedVariables false

variable {zs ys hs : List Int} {p q r : Nat} {inc jnc knc : Int}

end Go.Proofs.Ytombgfpheiopgaa
