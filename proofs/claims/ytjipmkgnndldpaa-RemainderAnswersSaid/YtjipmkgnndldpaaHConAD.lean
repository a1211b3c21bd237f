/- The pair of a convolution: its block, sum, growth; a curve's part in it. By the verifier's side. | The convolution of a pair; Of. By the verifier's side. | Horizon, repeats, attains. By the verifier's side. | The least splits; a list of splits is checked; all sums are at least the result. By the verifier's side. -/
import Derived.Test.YtjipmkgnndldpaaHRowF
import Derived.Test.YtjipmkgnndldpaaHKeepT
import Derived.BigRegion
import Derived.Test.YtjipmkgnndldpaaHPwMPwOPwXR56M
namespace Go.Proofs.Ytjipmkgnndldpaa
open Go.RowKit
set_option linter.unusedSimpArgs false
set_option linter.unusedVariables false

section
variable {w w' : World} {b : Nat} {x0 x1 x2 y0 y1 y2 z0 : Value}
end

section
variable {w u v : World} {a : Option Addr} {n cap p : Nat} {inc : Int} {zs : List Int} {S : Nat} {G : Int} {lb A B k : Nat}
end
end Go.Proofs.Ytjipmkgnndldpaa

namespace Go.Proofs.Ytjipmkgnndldpaa
open Go.RowKit
set_option linter.unusedSimpArgs false
set_option linter.unusedVariables false

section
variable {w : World} {a1 a2 : Option Addr} {n1 cap1 p1 n2 cap2 p2 : Nat} {i1 i2 : Int} {z1 z2 : List Int} {u v : World}
end
section
variable {w u v : World} {la S1 : Nat} {G1 : Int} {lb S2 : Nat} {G2 : Int} {L : Nat} {z1 : List Int} {p1 : Nat} {i1 : Int} {z2 : List Int} {p2 : Nat} {i2 : Int} {m t : Nat} {x : Int}
end
theorem make_rowM (m : Nat) (hm : m ≤ 4000) (w : World) : (Instr.makeSlice 27 (.int .i64 (m : Int)) (.int .i64 (m : Int))).run Try.prog w = .ok (.slice (some ⟨w.heap.size, 0, none⟩) m m) (w.alloc (.cells (madeCells #[.int .i64 0] m) 3)) := by
  have := run_make_row' (P := Try.prog) 27 3 (.int .i64 0) 8 Try.underlying27 info_int rfl .i64 .i64 m (by omega) (by omega) w
  simpa using this

end Go.Proofs.Ytjipmkgnndldpaa

namespace Go.Proofs.Ytjipmkgnndldpaa
open Go.RowKit
set_option linter.unusedSimpArgs false
set_option linter.unusedVariables false

section
variable {W w u v : World} {la S1 : Nat} {G1 : Int} {lb S2 : Nat} {G2 : Int} {L : Nat} {lh Sh : Nat} {Gh : Int} {t : Nat} {y : Int}
end

end Go.Proofs.Ytjipmkgnndldpaa

namespace Go.Proofs.Ytjipmkgnndldpaa
open Go.RowKit
set_option linter.unusedSimpArgs false
set_option linter.unusedVariables false

section
variable {W w u v : World} {la S1 : Nat} {G1 : Int} {lb S2 : Nat} {G2 : Int} {L : Nat} {lh Sh : Nat} {Gh : Int} {F1 F2 Fh : Nat → Int} {N : Nat} {A : Nat → Nat} {t k : Nat}
end

end Go.Proofs.Ytjipmkgnndldpaa
