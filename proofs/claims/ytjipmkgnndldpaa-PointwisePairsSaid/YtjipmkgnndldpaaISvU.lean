/- The document's Maximum of two answers, and its Best. By the verifier's side. -/
import Derived.Test.YtjipmkgnndldpaaISvL
import Derived.Test.YtjipmkgnndldpaaIRefO
import Derived.Lib.Small
import Derived.Test.YtjipmkgnndldpaaIMathNumCurTCurveGrowsW
import Derived.Test.YtjipmkgnndldpaaIBkL
import Derived.Test.YtjipmkgnndldpaaIPwSPwU
import Derived.Test.YtjipmkgnndldpaaIBkA
import Derived.Test.YtjipmkgnndldpaaIBkM
import Derived.Test.YtjipmkgnndldpaaIPwFPwG
import Derived.Test.YtjipmkgnndldpaaIKeepT
import Derived.BigRegion
import Derived.Laws.EntriesVeiled
import Derived.Test.YtjipmkgnndldpaaIBkB
import Derived.Test.YtjipmkgnndldpaaICurSCurW
import Derived.Test.YtjipmkgnndldpaaICurFCurG
import Derived.Test.YtjipmkgnndldpaaIBaseApartPickKeepS
import Derived.Test.YtjipmkgnndldpaaIR5D
import Derived.Test.YtjipmkgnndldpaaILong
import Derived.Test.YtjipmkgnndldpaaIConER
import Derived.Deep.RegionWith
import Derived.Test.YtjipmkgnndldpaaIRMax
import Derived.Test.YtjipmkgnndldpaaICloR
namespace Go.Proofs.Ytjipmkgnndldpaa
open Go.RowKit
set_option linter.unusedSimpArgs false
set_option linter.unusedVariables false

set_option maxRecDepth 100000 in
set_option maxHeartbeats 6400000 in
theorem rmax_lim (a1 : Option Addr) (n1 cap1 : Nat) (z1 : List Int) (p1 : Nat) (i1 : Int) (g1 : Good z1 p1 i1) (a2 : Option Addr) (n2 cap2 : Nat) (z2 : List Int) (p2 : Nat) (i2 : Int) (g2 : Good z2 p2 i2) (L : Nat) (hL : LcmN z1 p1 i1 z2 p2 i2 L) (hL2 : 120 < L) (w : World) (h1 : RowZ w a1 n1 cap1 z1) (h2 : RowZ w a2 n2 cap2 z2) :
    Calls Try.prog 50 #[curV a1 n1 cap1 p1 i1, curV a2 n2 cap2 p2 i2] w (GivesBad 3 w) := by
  have HX := Lib.hid (show ∀ u, RowZ u a1 n1 cap1 z1 → RowZ u a2 n2 cap2 z2 → Calls Try.prog 130 #[curV a1 n1 cap1 p1 i1, curV a2 n2 cap2 p2 i2, .bool false] u (GivesBad 3 u) from fun u r1 r2 => rext_lim a1 n1 cap1 z1 p1 i1 g1 a2 n2 cap2 z2 p2 i2 g2 L hL hL2 false u r1 r2)
  obtain ⟨W, hW⟩ : ∃ W, ((w.alloc (.cells #[.slice a1 n1 cap1, .int .i64 p1, .int .i64 i1] 38)).alloc (.cells #[.slice a2 n2 cap2, .int .i64 p2, .int .i64 i2] 38)).alloc (.cells #[.slice none 0 0, .int .i64 0, .int .i64 0] 38) = W := ⟨_, rfl⟩
  obtain ⟨⟨hB, hWs⟩, k1, k2, kr⟩ := boxesB w a1 n1 cap1 p1 i1 a2 n2 cap2 p2 i2 hW
  have HB := Lib.hid hB
  have KR := Lib.hid kr
  have HR := Lib.hid (And.intro (h1.under hB) (h2.under hB))
  have HW := Lib.hid hW
  obtain ⟨m0, m1, m2, m3, m4, m5⟩ := k1
  obtain ⟨u0, u1, u2, u3, u4, u5⟩ := k2
  clear h1 h2 hB kr hW hWs g1 g2 hL
  go_enter Try.func50, Try.ntmps50
  go_upto_region 1 with fail
  try rw [HW.out]
  go_wp2_with fail
  clear m0 m1 m2 m3 m4 m5 u0 u1 u2 u3 u4 u5
  refine (HX.out _ HR.out.1 HR.out.2).mono ?_
  rintro e v2 ⟨rfl, hb2⟩
  have HP := Lib.hid (GivesBad.post (b := w.heap.size + 2) HB.out (by omega) hb2 3)
  obtain ⟨d0, d1, d2, e0, e1, e2⟩ := KR.out.below hb2
  clear hb2
  go_wp2_with fail
  exact bodyPost_ret (v := .tuple #[curV none 0 0 0 0, .int .i64 3]) (by simp [results, Try.results50, go_sem, d0, d1, d2]) rfl HP.out
end Go.Proofs.Ytjipmkgnndldpaa
