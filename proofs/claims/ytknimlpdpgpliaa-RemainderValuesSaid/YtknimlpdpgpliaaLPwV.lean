/- Contracts for PointwiseValues: plus of the statement, Maximum, values of a curve or of the zero curve. By the verifier's side. -/
import Derived.Test.YtknimlpdpgpliaaLPwSPwU
import Derived.Test.YtknimlpdpgpliaaLRefARefP
namespace Go.Proofs.Ytknimlpdpgpliaa
open Go.RowKit
set_option linter.unusedSimpArgs false

theorem value_mx {E : Nat → Option Int} {a : Option Addr} {n cap : Nat} {zs : List Int} {p inc c : Int} (h : MX E zs p inc c) (t : Nat) (ht : t ≤ 1048576) (v : Int) (hv : v = if c = 0 then enc (E t) else 0) (d : Int) (hd : d = if c = 0 then 0 else 1) (w : World) (hr : RowZ w a n cap zs) :
    Calls Try.prog 25 #[curV a n cap p inc, .int .i64 t] w (Pair v d w) := by
  rcases h with ⟨rfl, q, rfl, hf⟩ | ⟨rfl, rfl, rfl, rfl⟩
  · rw [if_pos rfl] at hv hd
    subst hd
    exact value_at a n cap zs q inc hf.good t t rfl ht v (by rw [hv, ← hf.val, enc_eC]) w hr
  · rw [if_neg (by decide)] at hv hd
    subst hv hd
    exact value_bad a n cap [] 0 0 ⟨by omega, by omega⟩ ⟨by omega, by omega⟩ (by decide) t w hr

end Go.Proofs.Ytknimlpdpgpliaa
