/- Of, Prove and Check of the convolution. By the verifier's side. | Check: its tests, and that it accepts what Prove returns. By the verifier's side. | Check of no certificate; the chapter's example; curves that are periodic by 24 ticks in the end. By the verifier's side. | The document's Minimum by its meaning. By the verifier's side. | The document's Later, Line and Flat. By the verifier's side. | Mathematics of the convolution of lines, without the program. By the verifier's side. -/
import Derived.Test.YtjipmkgnndldpaaHConAD
import Derived.Test.YtjipmkgnndldpaaHR5D
import Derived.Test.YtjipmkgnndldpaaHCurX
import Derived.Test.YtjipmkgnndldpaaHPwSPwU
import Derived.Test.YtjipmkgnndldpaaHBaseApartPickKeepS
import Derived.Deep.AppendLies
import Derived.Test.YtjipmkgnndldpaaHPwMPwOPwXR56M
namespace Go.Proofs.Ytjipmkgnndldpaa
open Go.RowKit
set_option linter.unusedSimpArgs false
set_option linter.unusedVariables false

end Go.Proofs.Ytjipmkgnndldpaa

namespace Go.Proofs.Ytjipmkgnndldpaa
open Go.RowKit
set_option linter.unusedSimpArgs false
set_option linter.unusedVariables false

section
variable {w u v : World} {cb rb pb hb tb la S1 : Nat} {G1 : Int} {lb S2 : Nat} {G2 : Int} {L lh Sh : Nat} {Gh : Int} {a : Option Addr} {n cap r : Nat} {knc : Int} {F ab N : Nat} {a5 : Option Addr} {n5 cap5 : Nat} {hs : List Int} {F1 F2 Fh : Nat → Int} {A : Nat → Nat}
end
end Go.Proofs.Ytjipmkgnndldpaa

namespace Go.Proofs.Ytjipmkgnndldpaa
open Go.RowKit
set_option linter.unusedSimpArgs false
set_option linter.unusedVariables false

section
variable (a1 : Option Addr) (n1 cap1 : Nat) (z1 : List Int) (p1 : Nat) (i1 : Int) (g1 : Good z1 p1 i1) (a2 : Option Addr) (n2 cap2 : Nat) (z2 : List Int) (p2 : Nat) (i2 : Int) (g2 : Good z2 p2 i2) (h1 : Day (eC z1 p1 i1)) (h2 : Day (eC z2 p2 i2))
    (w : World) (r1 : RowZ w a1 n1 cap1 z1) (r2 : RowZ w a2 n2 cap2 z2)
include g1 g2 h1 h2 r1 r2
end


end Go.Proofs.Ytjipmkgnndldpaa

namespace Go.Proofs.Ytjipmkgnndldpaa
open Go.RowKit
set_option linter.unusedSimpArgs false
set_option linter.unusedVariables false

set_option maxRecDepth 100000 in
set_option maxHeartbeats 1600000 in
theorem rslopes (b1 : Option Addr) (m1 c1 q1 : Nat) (j1 : Int) (b2 : Option Addr) (m2 c2 q2 : Nat) (j2 : Int) (L k1 k2 : Nat) (x1 x2 : Int) (hkq1 : (L : Int).tdiv (q1 : Int) = (k1 : Int)) (hkz1 : ¬ (q1 : Int) = 0) (hkn1 : ¬ q1 = 0) (hkd1 : (L : Int) / (q1 : Int) = (k1 : Int)) (hxw1 : IntKind.i64.wrap (j1 * (k1 : Int)) = x1) (hxx1 : IntKind.i64.wrap x1 = x1) (hkw1 : IntKind.i64.wrap (k1 : Int) = (k1 : Int)) (hkq2 : (L : Int).tdiv (q2 : Int) = (k2 : Int)) (hkz2 : ¬ (q2 : Int) = 0) (hkn2 : ¬ q2 = 0) (hkd2 : (L : Int) / (q2 : Int) = (k2 : Int)) (hxw2 : IntKind.i64.wrap (j2 * (k2 : Int)) = x2) (hxx2 : IntKind.i64.wrap x2 = x2) (hkw2 : IntKind.i64.wrap (k2 : Int) = (k2 : Int)) (hb1 : 0 ≤ x1 ∧ x1 ≤ 128849018880) (hb2 : 0 ≤ x2 ∧ x2 ≤ 128849018880) (w : World) :
    Calls Try.prog 136 #[curV b1 m1 c1 q1 j1, curV b2 m2 c2 q2 j2, .int .i64 L] w (Says (.int .i64 (x1 - x2)) w) := by
  obtain ⟨W, hW⟩ : ∃ W, (w.alloc (.cells #[.slice b1 m1 c1, .int .i64 q1, .int .i64 j1] 38)).alloc (.cells #[.slice b2 m2 c2, .int .i64 q2, .int .i64 j2] 38) = W := ⟨_, rfl⟩
  have hB : Below w.heap.size w W := by rw [← hW]; exact ((Below.refl _ _).alloc (Nat.le_refl _) _).alloc (by simp) _
  have k1' : Cur3 W w.heap.size (.slice b1 m1 c1) (.int .i64 q1) (.int .i64 j1) := by rw [← hW]; exact (Cur3.new w _ _ _ _).alloc _
  have k2' : Cur3 W (w.heap.size + 1) (.slice b2 m2 c2) (.int .i64 q2) (.int .i64 j2) := by rw [← hW]; exact Cur3.new2 w _ _ _ _ _
  have HB := Lib.hid hB
  have HW := Lib.hid hW
  obtain ⟨g0, g1, g2, g3, g4, g5⟩ := k1'
  obtain ⟨d0, d1, d2, d3, d4, d5⟩ := k2'
  obtain ⟨hb1a, hb1b⟩ := hb1
  obtain ⟨hb2a, hb2b⟩ := hb2
  have hxs : IntKind.i64.wrap (x1 - x2) = x1 - x2 := IntWalk.i64_in _ ⟨by omega, by omega⟩
  clear hB hW
  go_enter Try.func136, Try.ntmps136
  go_upto_region 1 with fail
  try rw [HW.out]
  go_quiet (fail)
  go_wp2_with fail
  go_ret
  exact ⟨rfl, HB.out.drewN _⟩

section
variable {w u v : World} {A O R : Nat} {b1 : Option Addr} {m1 c1 q1 : Nat} {j1 : Int} {y1 : List Int} {b2 : Option Addr} {m2 c2 q2 : Nat} {j2 : Int} {y2 : List Int} {L g cap M : Nat} {f : Nat → Int} {inc : Int}
end

end Go.Proofs.Ytjipmkgnndldpaa

namespace Go.Proofs.Ytjipmkgnndldpaa
open Go.RowKit
set_option linter.unusedSimpArgs false
set_option linter.unusedVariables false

theorem flat_good7 (v : Int) (h0 : 0 ≤ v) (h1 : v ≤ 1000) : Good [0, v] 1 0 := by
  refine ⟨by show 2 ≤ 400; omega, by decide, by decide, by show 1 ≤ 2; omega, by decide, by decide, fun i hi => ?_, fun i hi => ?_, fun h => ?_, fun _ => ?_⟩
  · rcases (show i = 0 ∨ i = 1 by have : i < 2 := hi; omega) with rfl | rfl
    · exact .inl ⟨by show (0 : Int) ≤ 0; omega, by show (0 : Int) ≤ 1073741824; omega⟩
    · exact .inl ⟨h0, by show v ≤ _; omega⟩
  · obtain rfl : i = 0 := by have : i + 1 < 2 := hi; omega
    exact h0
  · exact absurd (show v = infV from h) (by unfold infV; omega)
  · show v ≤ v + 0; omega
theorem flat_fin7 (v : Int) (h0 : 0 ≤ v) (h1 : v ≤ 1000) : ¬ InfC [0, v] := by rw [infC_iff]; show ¬ v = infV; unfold infV; omega
theorem flat_raw (v : Int) (h0 : 0 ≤ v) (h1 : v ≤ 1000) : RawE [0, v] 1 0 (eC [0, v] 1 0) := by
  refine .inl ⟨⟨by show 2 ≤ 8192; omega, by decide, by decide, by show 1 ≤ 2; omega, by decide, by decide, fun i hi => ?_⟩, fun t => eC_fin (flat_fin7 v h0 h1) 1 0 t⟩
  rcases (show i = 0 ∨ i = 1 by have : i < 2 := hi; omega) with rfl | rfl
  · exact ⟨by show (0 : Int) ≤ 0; omega, by show (0 : Int) ≤ 2251799813685248; omega⟩
  · exact ⟨h0, by show v ≤ _; omega⟩

set_option maxRecDepth 100000 in
set_option maxHeartbeats 1600000 in
theorem rflat7 (x : Int) (h0 : 0 ≤ x) (h1 : x ≤ 1000) (w : World) : Calls Try.prog 98 #[.int .i64 x] w (GivesOk (eC [0, x] 1 0) w) := by
  obtain ⟨W, hW⟩ : ∃ W, (w.alloc (.cells #[.slice none 0 0, .int .i64 0, .int .i64 0] 38)).alloc (.cells #[.int .i64 0, .int .i64 x] 3) = W := ⟨_, rfl⟩
  have hB : Below w.heap.size w W := by rw [← hW]; exact ((Below.refl _ _).alloc (Nat.le_refl _) _).alloc (by simp) _
  have KR := Lib.hid (show Cur3 W w.heap.size (.slice none 0 0) (.int .i64 0) (.int .i64 0) by rw [← hW]; exact (Cur3.new w _ _ _ _).alloc _)
  have hr := rowZ_lit (w.alloc (.cells #[.slice none 0 0, .int .i64 0, .int .i64 0] 38)) [0, x] 3 (by intro z hz; rcases List.mem_cons.1 hz with rfl | hz; exact ⟨by decide, by decide⟩; rcases List.mem_cons.1 hz with rfl | hz; exact ⟨by omega, by omega⟩; cases hz) (by show 2 ≤ 1000; omega)
  rw [show (w.alloc (.cells #[.slice none 0 0, .int .i64 0, .int .i64 0] 38)).heap.size = w.heap.size + 1 by simp] at hr
  have HR := Lib.hid (show RowZ W (some ⟨w.heap.size + 1, 0, none⟩) 2 2 [0, x] by rw [← hW]; exact hr)
  have HB := Lib.hid hB
  have HW := Lib.hid hW
  have tx : ¬ x < 0 := by omega
  have tm : ¬ (1073741825 : Int) < x := by omega
  have tm2 : decide ((1073741825 : Int) < x) = false := decide_eq_false tm
  clear hr hB hW
  go_enter Try.func98, Try.ntmps98
  go_wp2_with fail
  try rw [HW.out]
  refine ((rmade_ok (some ⟨w.heap.size + 1, 0, none⟩) 2 2 [0, x] 1 0 (flat_raw x h0 h1) _ HR.out).mono fun _ _ h => h.ok (self_can (flat_good7 x h0 h1))).mono ?_
  rintro e v ⟨a5, n5, cap5, zs5, p5, inc5, rfl, hb2, hr5, hf5, hx5⟩
  have HP := Lib.hid ((GivesE.post (b := w.heap.size) HB.out (by omega) KR.out.lt hb2 hr5 hx5 hf5).ok (self_can (flat_good7 x h0 h1)))
  obtain ⟨d0, d1, d2, e0, e1, e2⟩ := KR.out.below hb2
  clear hb2 hr5 hf5 hx5
  go_wp2_with fail
  exact bodyPost_ret (v := .tuple #[curV a5 n5 cap5 p5 inc5, .int .i64 0]) (by simp [results, Try.results98, go_sem, d0, d1, d2]) rfl HP.out

section
variable (a1 : Option Addr) (n1 cap1 : Nat) (z1 : List Int) (p1 : Nat) (i1 : Int) (g1 : Good z1 p1 i1) (a2 : Option Addr) (n2 cap2 : Nat) (z2 : List Int) (p2 : Nat) (i2 : Int) (g2 : Good z2 p2 i2) (h1 : Day (eC z1 p1 i1)) (h2 : Day (eC z2 p2 i2))
    (w : World) (r1 : RowZ w a1 n1 cap1 z1) (r2 : RowZ w a2 n2 cap2 z2)
include g1 g2 h1 h2 r1 r2
end

end Go.Proofs.Ytjipmkgnndldpaa

namespace Go.Proofs.Ytjipmkgnndldpaa
set_option linter.unusedVariables false

end Go.Proofs.Ytjipmkgnndldpaa
