/- Contracts: slices.IsSorted at numbers, curve.Valid. By the verifier's side. -/
import Derived.Test.YtkienpbmoilheaaECurAGrow
import Derived.BigQuiet
import Derived.Deep.QuietTactic
namespace Go.Proofs.Ytkienpbmoilheaa
open Go.RowKit
set_option linter.unusedSimpArgs false

theorem hdr_add {w wr : World} (h : ∃ m, wr = w.drewN m) (n : Nat) : ∃ m, wr.drewN n = w.drewN m := by
  obtain ⟨m, rfl⟩ := h; exact ⟨m + n, World.drewN_drewN _ _ _⟩

end Go.Proofs.Ytkienpbmoilheaa

namespace Go.Proofs.Ytkienpbmoilheaa
open Go.RowKit
set_option linter.unusedSimpArgs false

/-- A curve as a value. -/
abbrev curV (a : Option Addr) (n cap : Nat) (p inc : Int) : Value := .agg #[.slice a n cap, .int .i64 p, .int .i64 inc]

end Go.Proofs.Ytkienpbmoilheaa
