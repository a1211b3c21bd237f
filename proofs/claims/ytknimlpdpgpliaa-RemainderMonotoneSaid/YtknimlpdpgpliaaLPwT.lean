/- The document's AtMost of two curves in normal form. By the verifier's side. -/
import Derived.Test.YtknimlpdpgpliaaLPwSPwU
import Derived.Test.YtknimlpdpgpliaaLOrdAS
namespace Go.Proofs.Ytknimlpdpgpliaa
open Go.RowKit
set_option linter.unusedSimpArgs false

theorem most_at {a a2 : Option Addr} {n cap n2 cap2 p q : Nat} {inc jnc : Int} {zs ys : List Int} {E E' : Nat → Option Int} (h : EForm zs p inc E) (k : EForm ys q jnc E') (hE : ∀ t, ole (E t) (E' t)) (w : World) (h1 : RowZ w a n cap zs) (h2 : RowZ w a2 n2 cap2 ys) :
    Calls Try.prog 29 #[curV a n cap p inc, curV a2 n2 cap2 q jnc] w (Says (.bool true) w) :=
  ratMost_ok a n cap zs p inc h.good a2 n2 cap2 ys q jnc k.good 0 false w h1 h2 (exc_of hE h k)
end Go.Proofs.Ytknimlpdpgpliaa
