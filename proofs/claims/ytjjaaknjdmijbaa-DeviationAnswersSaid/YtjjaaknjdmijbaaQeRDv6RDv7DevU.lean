/- Reach at whatever curve and number: program and document. By the verifier's side. -/
import Derived.Test.YtjjaaknjdmijbaaQeRDv1RDv2RDv3
import Derived.Test.YtjjaaknjdmijbaaQeDevG
import Derived.Test.YtjjaaknjdmijbaaQeRefP
import Derived.Test.YtjjaaknjdmijbaaQeDevF
import Derived.Test.YtjjaaknjdmijbaaQeRDv4RDv5
namespace Go.Proofs.Ytjjaaknjdmijbaa
open Go.RowKit
set_option linter.unusedSimpArgs false
set_option linter.unusedVariables false

set_option maxRecDepth 100000 in
set_option maxHeartbeats 3200000 in
theorem rreach10_ok (a : Option Addr) (n cap : Nat) (zs : List Int) (p : Nat) (inc : Int) (g : Good zs p inc) (V : Option Int) (hV : Asks V) (x : Int) (hx : enc V = x) (w : World) (h : RowZ w a n cap zs) :
    Calls Try.prog 64 #[curV a n cap p inc, .int .i64 x] w (GivesReach (eC zs p inc) V w) := by
  have hcase : x = 4611686018427387904 ∨ (¬ x = 4611686018427387904 ∧ ¬ x < 0 ∧ ¬ (1125899906842624 : Int) < x) := by
    rw [← hx]
    cases V with
    | none => exact .inl rfl
    | some v => obtain ⟨h1, h2⟩ := hV v rfl; right; show ¬ v = _ ∧ ¬ v < 0 ∧ ¬ _ < v; omega
  obtain ⟨W, hW⟩ : ∃ W, w.alloc (.cells #[.slice a n cap, .int .i64 p, .int .i64 inc] 24) = W := ⟨_, rfl⟩
  have hB : Below w.heap.size w W := by rw [← hW]; exact (Below.refl _ _).alloc (Nat.le_refl _) _
  have KF := Lib.hid (show Cur3 W w.heap.size (.slice a n cap) (.int .i64 p) (.int .i64 inc) by rw [← hW]; exact Cur3.new w _ _ _ _)
  have H := Lib.hid (h.under hB)
  have HB := Lib.hid hB
  have G := Lib.hid g
  have HX := Lib.hid (And.intro hV hx)
  have HW := Lib.hid hW
  obtain ⟨c0, c1, c2, f0, f1, f2⟩ := KF.out
  clear hB h hW g hV hx
  go_enter Try.func64, Try.ntmps64
  go_upto_region 1 with fail
  try rw [HW.out]
  go_wp2_with fail
  refine (rnormal_ok a n cap zs p inc G.out _ H.out).mono ?_
  rintro e w1 ⟨a3, n3, cap3, x1, r1, k1, rfl, hb, hr, hnn, hx⟩
  obtain ⟨w2, hw⟩ : ∃ u, w1.alloc (.cells #[.slice a3 n3 cap3, .int .i64 r1, .int .i64 k1] 24) = u := ⟨_, rfl⟩
  have hz := below_box (w := w1) (.cells #[.slice a3 n3 cap3, .int .i64 r1, .int .i64 k1] 24)
  rw [hw] at hz
  have X2 := Lib.hid (show Bx w2 w1.heap.size a3 n3 cap3 r1 k1 x1 by rw [← hw]; exact Bx.new hr)
  have B2 := Lib.hid ((HB.out.trans (hb.mono HB.out.size)).trans (hz.mono (Nat.le_trans HB.out.size hb.size)))
  have GX := Lib.hid (And.intro (hnn.good G.out) (norm_E hnn G.out))
  have HW2 := Lib.hid hw
  clear c0 c1 c2 f0 f1 f2 hb hr hnn hx hw hz
  go_upto_region 2 with fail
  try rw [HW2.out]
  obtain ⟨A, hA⟩ : ∃ A, w1.heap.size = A := ⟨_, rfl⟩
  rw [hA] at X2
  try rw [hA]
  clear hA HW2
  rcases hcase with rfl | ⟨d1, d2, d3⟩
  · obtain ⟨c0, c1, c2, f0, f1, f2⟩ := X2.out.box
    go_wp2_with fail
    refine (rfirst10 a3 n3 cap3 x1 r1 k1 GX.out.1 V HX.out.1 _ HX.out.2 _ X2.out.row).mono ?_
    rintro e w3 ⟨o, k, rfl, hb, hF, hk⟩
    have HF := Lib.hid (show GivesReach (eC zs p inc) V w (.returned (.tuple #[.int .i64 (k : Nat), .bool o, .int .i64 0])) w3 from ⟨o, k, rfl, B2.out.trans (hb.mono B2.out.size), by rw [← GX.out.2]; exact hF, hk⟩)
    clear hb hF
    go_wp2_with fail
    go_ret3
    exact HF.out
  · have t1 : (x != 4611686018427387904) = true := by simpa using d1
    have t2 : decide (x < 0) = false := decide_eq_false (by omega)
    have t3 : decide ((1125899906842624 : Int) < x) = false := decide_eq_false (by omega)
    obtain ⟨c0, c1, c2, f0, f1, f2⟩ := X2.out.box
    go_wp2_with fail
    refine (rfirst10 a3 n3 cap3 x1 r1 k1 GX.out.1 V HX.out.1 _ HX.out.2 _ X2.out.row).mono ?_
    rintro e w3 ⟨o, k, rfl, hb, hF, hk⟩
    have HF := Lib.hid (show GivesReach (eC zs p inc) V w (.returned (.tuple #[.int .i64 (k : Nat), .bool o, .int .i64 0])) w3 from ⟨o, k, rfl, B2.out.trans (hb.mono B2.out.size), by rw [← GX.out.2]; exact hF, hk⟩)
    clear hb hF
    go_wp2_with fail
    go_ret3
    exact HF.out

set_option maxRecDepth 100000 in
set_option maxHeartbeats 3200000 in
theorem rreach10_range (a : Option Addr) (n cap : Nat) (zs : List Int) (p : Nat) (inc : Int) (g : Good zs p inc) (x : Int) (hx : ¬ x = 4611686018427387904 ∧ (x < 0 ∨ (1125899906842624 : Int) < x)) (w : World) (h : RowZ w a n cap zs) :
    Calls Try.prog 64 #[curV a n cap p inc, .int .i64 x] w (Says (.tuple #[.int .i64 0, .bool false, .int .i64 2]) w) := by
  obtain ⟨W, hW⟩ : ∃ W, w.alloc (.cells #[.slice a n cap, .int .i64 p, .int .i64 inc] 24) = W := ⟨_, rfl⟩
  have hB : Below w.heap.size w W := by rw [← hW]; exact (Below.refl _ _).alloc (Nat.le_refl _) _
  have KF := Lib.hid (show Cur3 W w.heap.size (.slice a n cap) (.int .i64 p) (.int .i64 inc) by rw [← hW]; exact Cur3.new w _ _ _ _)
  have H := Lib.hid (h.under hB)
  have HB := Lib.hid hB
  have G := Lib.hid g
  have HW := Lib.hid hW
  obtain ⟨c0, c1, c2, f0, f1, f2⟩ := KF.out
  clear hB h hW g
  go_enter Try.func64, Try.ntmps64
  go_upto_region 1 with fail
  try rw [HW.out]
  go_wp2_with fail
  refine (rnormal_ok a n cap zs p inc G.out _ H.out).mono ?_
  rintro e w1 ⟨a3, n3, cap3, x1, r1, k1, rfl, hb, hr, hnn, hx⟩
  obtain ⟨w2, hw⟩ : ∃ u, w1.alloc (.cells #[.slice a3 n3 cap3, .int .i64 r1, .int .i64 k1] 24) = u := ⟨_, rfl⟩
  have hz := below_box (w := w1) (.cells #[.slice a3 n3 cap3, .int .i64 r1, .int .i64 k1] 24)
  rw [hw] at hz
  have X2 := Lib.hid (show Bx w2 w1.heap.size a3 n3 cap3 r1 k1 x1 by rw [← hw]; exact Bx.new hr)
  have B2 := Lib.hid ((HB.out.trans (hb.mono HB.out.size)).trans (hz.mono (Nat.le_trans HB.out.size hb.size)))
  have GX := Lib.hid (And.intro (hnn.good G.out) (norm_E hnn G.out))
  have HW2 := Lib.hid hw
  clear c0 c1 c2 f0 f1 f2 hb hr hnn hx hw hz
  go_upto_region 2 with fail
  try rw [HW2.out]
  obtain ⟨A, hA⟩ : ∃ A, w1.heap.size = A := ⟨_, rfl⟩
  rw [hA] at X2
  try rw [hA]
  clear hA HW2
  have t1 : (x != 4611686018427387904) = true := by simpa using hx.1
  by_cases hx0 : x < 0
  · have t2 : decide (x < 0) = true := decide_eq_true hx0
    go_wp2_with fail
    go_ret3
    exact ⟨rfl, B2.out⟩
  · have t2 : decide (x < 0) = false := decide_eq_false hx0
    have t3 : decide ((1125899906842624 : Int) < x) = true := decide_eq_true (by rcases hx.2 with h | h; exact absurd h hx0; exact h)
    go_wp2_with fail
    go_ret3
    exact ⟨rfl, B2.out⟩

set_option maxRecDepth 100000 in
set_option maxHeartbeats 3200000 in
theorem reach1_range (a : Option Addr) (n cap : Nat) (zs : List Int) (p : Nat) (inc : Int) (g : Good zs p inc) (x : Int) (hx : ¬ x = 4611686018427387904 ∧ (x < 0 ∨ (1125899906842624 : Int) < x)) (w : World) (h : RowZ w a n cap zs) :
    Calls Try.prog 63 #[curV a n cap p inc, .int .i64 x] w (Says (.tuple #[.int .i64 0, .bool false, .int .i64 2]) w) := by
  obtain ⟨W, hW⟩ : ∃ W, w.alloc (.cells #[.slice a n cap, .int .i64 p, .int .i64 inc] 24) = W := ⟨_, rfl⟩
  have hB : Below w.heap.size w W := by rw [← hW]; exact (Below.refl _ _).alloc (Nat.le_refl _) _
  have KF := Lib.hid (show Cur3 W w.heap.size (.slice a n cap) (.int .i64 p) (.int .i64 inc) by rw [← hW]; exact Cur3.new w _ _ _ _)
  have H := Lib.hid (h.under hB)
  have HB := Lib.hid hB
  have V1 := Lib.hid ((okC_iff zs p inc).2 g)
  have HI := Lib.hid (show In64 (p : Int) ∧ In64 inc from ⟨⟨by omega, by have := g.p2; omega⟩, by have := g.i0; omega, by have := g.i1; omega⟩)
  have HW := Lib.hid hW
  obtain ⟨c0, c1, c2, f0, f1, f2⟩ := KF.out
  clear hB h hW g
  go_enter Try.func63, Try.ntmps63
  go_upto_region 1 with fail
  try rw [HW.out]
  go_wp2_with fail
  refine (valid_any a n cap zs p inc HI.out.1 HI.out.2 true V1.out _ H.out).mono ?_
  rintro e w1 ⟨rfl, hb⟩
  have HB1 := Lib.hid (HB.out.trans (hb.mono HB.out.size))
  clear hb
  have t1 : (x != 4611686018427387904) = true := by simpa using hx.1
  by_cases hx0 : x < 0
  · have t2 : decide (x < 0) = true := decide_eq_true hx0
    go_wp2_with fail
    go_ret3
    exact ⟨rfl, HB1.out⟩
  · have t2 : decide (x < 0) = false := decide_eq_false hx0
    have t3 : decide ((1125899906842624 : Int) < x) = true := decide_eq_true (by rcases hx.2 with h | h; exact absurd h hx0; exact h)
    go_wp2_with fail
    go_ret3
    exact ⟨rfl, HB1.out⟩

set_option maxRecDepth 100000 in
set_option maxHeartbeats 3200000 in
theorem reach1_bad (a : Option Addr) (n cap : Nat) (zs : List Int) (p inc : Int) (hp : In64 p) (hi : In64 inc) (hv : okC zs p inc = false) (x : Int) (w : World) (h : RowZ w a n cap zs) :
    Calls Try.prog 63 #[curV a n cap p inc, .int .i64 x] w (Says (.tuple #[.int .i64 0, .bool false, .int .i64 1]) w) := by
  obtain ⟨W, hW⟩ : ∃ W, w.alloc (.cells #[.slice a n cap, .int .i64 p, .int .i64 inc] 24) = W := ⟨_, rfl⟩
  have hB : Below w.heap.size w W := by rw [← hW]; exact (Below.refl _ _).alloc (Nat.le_refl _) _
  have KF := Lib.hid (show Cur3 W w.heap.size (.slice a n cap) (.int .i64 p) (.int .i64 inc) by rw [← hW]; exact Cur3.new w _ _ _ _)
  have H := Lib.hid (h.under hB)
  have HB := Lib.hid hB
  have V1 := Lib.hid hv
  have HI := Lib.hid (And.intro hp hi)
  have HW := Lib.hid hW
  obtain ⟨c0, c1, c2, f0, f1, f2⟩ := KF.out
  clear hB h hW hp hi hv
  go_enter Try.func63, Try.ntmps63
  go_upto_region 1 with fail
  try rw [HW.out]
  go_wp2_with fail
  refine (valid_any a n cap zs p inc HI.out.1 HI.out.2 false V1.out _ H.out).mono ?_
  rintro e w1 ⟨rfl, hb⟩
  have HB1 := Lib.hid (HB.out.trans (hb.mono HB.out.size))
  clear hb
  go_wp2_with fail
  go_ret3
  exact ⟨rfl, HB1.out⟩

set_option maxRecDepth 100000 in
set_option maxHeartbeats 3200000 in
theorem rreach10_bad (a : Option Addr) (n cap : Nat) (zs : List Int) (p inc : Int) (hp : In64 p) (hi : In64 inc) (hv : okC zs p inc = false) (x : Int) (w : World) (h : RowZ w a n cap zs) :
    Calls Try.prog 64 #[curV a n cap p inc, .int .i64 x] w (Says (.tuple #[.int .i64 0, .bool false, .int .i64 1]) w) := by
  obtain ⟨W, hW⟩ : ∃ W, w.alloc (.cells #[.slice a n cap, .int .i64 p, .int .i64 inc] 24) = W := ⟨_, rfl⟩
  have hB : Below w.heap.size w W := by rw [← hW]; exact (Below.refl _ _).alloc (Nat.le_refl _) _
  have KF := Lib.hid (show Cur3 W w.heap.size (.slice a n cap) (.int .i64 p) (.int .i64 inc) by rw [← hW]; exact Cur3.new w _ _ _ _)
  have H := Lib.hid (h.under hB)
  have HB := Lib.hid hB
  have V1 := Lib.hid hv
  have HI := Lib.hid (And.intro hp hi)
  have HW := Lib.hid hW
  obtain ⟨c0, c1, c2, f0, f1, f2⟩ := KF.out
  clear hB h hW hp hi hv
  go_enter Try.func64, Try.ntmps64
  go_upto_region 1 with fail
  try rw [HW.out]
  go_wp2_with fail
  refine (rnormal_bad a n cap zs p inc HI.out.1 HI.out.2 V1.out _ H.out).mono ?_
  rintro e w1 ⟨rfl, hb⟩
  obtain ⟨w2, hw⟩ : ∃ u, w1.alloc (.cells #[.slice none 0 0, .int .i64 0, .int .i64 0] 24) = u := ⟨_, rfl⟩
  have B2 := Lib.hid (show Below w.heap.size w w2 by rw [← hw]; exact (HB.out.trans (hb.mono HB.out.size)).alloc (Nat.le_trans HB.out.size hb.size) _)
  have HW2 := Lib.hid hw
  clear c0 c1 c2 f0 f1 f2 hb hw
  go_upto_region 2 with fail
  try rw [HW2.out]
  go_wp2_with fail
  go_ret3
  exact ⟨rfl, B2.out⟩

end Go.Proofs.Ytjjaaknjdmijbaa

namespace Go.Proofs.Ytjjaaknjdmijbaa
open Go.RowKit
set_option linter.unusedSimpArgs false
set_option linter.unusedVariables false

def GivesPBadV (c : Int) (w : World) (e : Ending) (w' : World) : Prop := e = .returned (.tuple #[(.agg #[.slice none 0 0, .int .i64 0, .int .i64 0, .slice none 0 0, .int .i64 0, .int .i64 0, .int .i64 0]), .int .i64 c]) ∧ Below w.heap.size w w'

set_option maxRecDepth 100000 in
set_option maxHeartbeats 6400000 in
theorem vpaired_lim (a1 : Option Addr) (n1 cap1 : Nat) (z1 : List Int) (p1 : Nat) (i1 : Int) (g1 : Good z1 p1 i1) (a2 : Option Addr) (n2 cap2 : Nat) (z2 : List Int) (p2 : Nat) (i2 : Int) (g2 : Good z2 p2 i2)
    {y1 y2 : List Int} {q1 q2 : Nat} {j1 j2 : Int} (hn1 : NormC z1 p1 i1 y1 q1 j1) (hn2 : NormC z2 p2 i2 y2 q2 j2) (L : Nat) (hL : q1 / Nat.gcd q1 q2 * q2 = L) (hL2 : 120 < L) (w : World) (h1 : RowZ w a1 n1 cap1 z1) (h2 : RowZ w a2 n2 cap2 z2) :
    Calls Try.prog 120 #[curV a1 n1 cap1 p1 i1, curV a2 n2 cap2 p2 i2] w (GivesPBadV 3 w) := by
  obtain ⟨W, hW⟩ : ∃ W, ((w.alloc (.cells #[.slice a1 n1 cap1, .int .i64 p1, .int .i64 i1] 24)).alloc (.cells #[.slice a2 n2 cap2, .int .i64 p2, .int .i64 i2] 24)).alloc (.cells #[.slice none 0 0, .int .i64 0, .int .i64 0, .slice none 0 0, .int .i64 0, .int .i64 0, .int .i64 0] 130) = W := ⟨_, rfl⟩
  obtain ⟨t0, hsz⟩ := sf7_start (p1 := p1) (i1 := i1) (p2 := p2) (i2 := i2) h1 h2 hW
  have T0 := Lib.hid t0
  have HSZ := Lib.hid hsz
  have HW := Lib.hid hW
  have V1 := Lib.hid ((okC_iff z1 p1 i1).2 g1)
  have V2 := Lib.hid ((okC_iff z2 p2 i2).2 g2)
  have G1 := Lib.hid g1
  have G2 := Lib.hid g2
  have HN := Lib.hid (And.intro hn1 hn2)
  have HL := Lib.hid hL
  have e1 : In64 (p1 : Int) := ⟨by omega, by have := g1.p2; omega⟩
  have e2 : In64 (p2 : Int) := ⟨by omega, by have := g2.p2; omega⟩
  have e3 : In64 i1 := ⟨by have := g1.i0; omega, by have := g1.i1; omega⟩
  have e4 : In64 i2 := ⟨by have := g2.i0; omega, by have := g2.i1; omega⟩
  have HI := Lib.hid (And.intro (And.intro e1 e3) (And.intro e2 e4))
  clear t0 hsz hW g1 g2 hn1 hn2 hL h1 h2 e1 e2 e3 e4
  go_enter Try.func120, Try.ntmps120
  go_wp2_with fail
  try rw [HW.out]
  refine (valid_any a1 n1 cap1 z1 p1 i1 HI.out.1.1 HI.out.1.2 true V1.out _ T0.out.r1).mono ?_
  rintro e w1 ⟨rfl, hb⟩
  have T1 := Lib.hid (T0.out.call hb)
  have HS1 := Lib.hid (Nat.le_trans (Nat.le_of_eq HSZ.out.symm) hb.size)
  clear hb
  obtain ⟨c0, c1, c2, f0, f1, f2⟩ := T1.out.c2
  go_wp2_with fail
  refine (valid_any a2 n2 cap2 z2 p2 i2 HI.out.2.1 HI.out.2.2 true V2.out _ T1.out.r2).mono ?_
  rintro e w2 ⟨rfl, hb⟩
  have T2 := Lib.hid (T1.out.call hb)
  have HS2 := Lib.hid (Nat.le_trans HS1.out hb.size)
  clear hb c0 c1 c2 f0 f1 f2
  obtain ⟨W5, hW5⟩ : ∃ W', w2.alloc (.cells #[.slice none 0 0, .int .i64 0, .int .i64 0, .slice none 0 0, .int .i64 0, .int .i64 0, .int .i64 0] 130) = W' := ⟨_, rfl⟩
  have hb5 : Below w2.heap.size w2 W5 := by rw [← hW5]; exact (Below.refl _ _).alloc (Nat.le_refl _) _
  have T5 := Lib.hid (T2.out.call hb5)
  have PB := Lib.hid (show P7 W5 w2.heap.size (.slice none 0 0) (.int .i64 0) (.int .i64 0) (.slice none 0 0) (.int .i64 0) (.int .i64 0) (.int .i64 0) by rw [← hW5]; exact p7_new w2 (.slice none 0 0) (.int .i64 0) (.int .i64 0) (.slice none 0 0) (.int .i64 0) (.int .i64 0) (.int .i64 0) _)
  have HW5 := Lib.hid hW5
  have HS5 := Lib.hid (show w.heap.size + 2 < w2.heap.size by have := HS2.out; omega)
  clear hb5 hW5
  go_upto_region 4 with fail
  try rw [HW5.out]
  obtain ⟨c0, c1, c2, f0, f1, f2⟩ := T5.out.c1
  go_wp2_with fail
  refine (normal_ok a1 n1 cap1 z1 p1 i1 G1.out _ T5.out.r1).mono ?_
  rintro e w3 ⟨a3, n3, cap3, x1, r1, k1, rfl, hb, hr, hn, hx⟩
  obtain ⟨rfl, rfl, rfl⟩ := hn.canon G1.out G1.out HN.out.1 (fun _ => rfl)
  obtain ⟨W6, hW6⟩ : ∃ W', (((w3.setCell ⟨w2.heap.size, 0, none⟩ (.slice a3 n3 cap3)).setCell ⟨w2.heap.size, 1, none⟩ (.int .i64 r1)).setCell ⟨w2.heap.size, 2, none⟩ (.int .i64 k1)) = W' := ⟨_, rfl⟩
  have T6 := Lib.hid (show SF7 w a1 n1 cap1 p1 i1 z1 a2 n2 cap2 p2 i2 z2 W6 by rw [← hW6]; have h9 := HS5.out; exact (((T5.out.call hb).other h9 _ _).other h9 _ _).other h9 _ _)
  have PB6 := Lib.hid (show P7 W6 w2.heap.size (.slice a3 n3 cap3) (.int .i64 r1) (.int .i64 k1) (.slice none 0 0) (.int .i64 0) (.int .i64 0) (.int .i64 0) by rw [← hW6]; exact (PB.out.below hb).set012 _ _ _)
  have hlt3 : w2.heap.size < w3.heap.size := Nat.lt_of_lt_of_le PB.out.lt hb.size
  have X3 := Lib.hid (show ∀ x, a3 = some x → w2.heap.size < x.block from fun x h => by have := hx x h; have := PB.out.lt; omega)
  have RX3 := Lib.hid (show RowZ W6 a3 n3 cap3 x1 by
    rw [← hW6]
    have q : ∀ x, a3 = some x → 1 ≤ n3 → x.block ≠ w2.heap.size := fun x h _ => by have := X3.out x h; omega
    exact ((hr.store q _ _).store q _ _).store q _ _)
  have HW6 := Lib.hid hW6
  obtain ⟨⟨c0, c1, c2, f0, f1, f2⟩, c3, c4, c5, c6, f3, f4, f5, f6⟩ := PB.out.below hb
  clear hb hr hn hx hW6 hlt3
  go_upto_region 5 with fail
  try rw [HW6.out]
  clear c0 c1 c2 f0 f1 f2 c3 c4 c5 c6 f3 f4 f5 f6
  obtain ⟨c0, c1, c2, f0, f1, f2⟩ := T6.out.c2
  go_wp2_with fail
  refine (normal_ok a2 n2 cap2 z2 p2 i2 G2.out _ T6.out.r2).mono ?_
  rintro e w4 ⟨a4, n4, cap4, x2, r2, k2, rfl, hb, hr, hn, hx⟩
  obtain ⟨rfl, rfl, rfl⟩ := hn.canon G2.out G2.out HN.out.2 (fun _ => rfl)
  obtain ⟨W7, hW7⟩ : ∃ W', (((w4.setCell ⟨w2.heap.size, 3, none⟩ (.slice a4 n4 cap4)).setCell ⟨w2.heap.size, 4, none⟩ (.int .i64 r2)).setCell ⟨w2.heap.size, 5, none⟩ (.int .i64 k2)) = W' := ⟨_, rfl⟩
  have N7 := Lib.hid (show SN7 w w2.heap.size a3 n3 cap3 r1 k1 x1 a4 n4 cap4 r2 k2 x2 (.int .i64 0) W7 by
    have h9 := HS5.out
    have hle : w2.heap.size < W6.heap.size := PB6.out.lt
    have X4 : ∀ x, a4 = some x → w2.heap.size < x.block := fun x h => by have := hx x h; omega
    have q3 : ∀ x, a3 = some x → 1 ≤ n3 → x.block ≠ w2.heap.size := fun x h _ => by have := X3.out x h; omega
    have q4 : ∀ x, a4 = some x → 1 ≤ n4 → x.block ≠ w2.heap.size := fun x h _ => by have := X4 x h; omega
    rw [← hW7]
    exact ⟨((((T6.out.call hb).res.other (by omega) _ _).other (by omega) _ _).other (by omega) _ _), (PB6.out.below hb).set345 _ _ _, ((((RX3.out.under hb).store q3 _ _).store q3 _ _).store q3 _ _), (((hr.store q4 _ _).store q4 _ _).store q4 _ _), X3.out, X4, h9, below_v3 (T6.out.call hb).below (by omega) _ _ _⟩)
  have HW7 := Lib.hid hW7
  clear c0 c1 c2 f0 f1 f2
  obtain ⟨⟨c0, c1, c2, f0, f1, f2⟩, c3, c4, c5, c6, f3, f4, f5, f6⟩ := PB6.out.below hb
  clear hb hr hn hx hW7
  have GX := Lib.hid (And.intro (HN.out.1.good G1.out) (HN.out.2.good G2.out))
  have bp1 := GX.out.1.p1
  have bp2 := GX.out.1.p2
  have bp3 := GX.out.2.p1
  have bp4 := GX.out.2.p2
  go_upto_region 6 with fail
  try rw [HW7.out]
  clear c0 c1 c2 f0 f1 f2 c3 c4 c5 c6 f3 f4 f5 f6
  obtain ⟨⟨c0, c1, c2, f0, f1, f2⟩, c3, c4, c5, c6, f3, f4, f5, f6⟩ := N7.out.pr
  go_wp2_with fail
  refine (common_any r1 r2 L HL.out bp1 (by omega) bp3 (by omega) _).mono ?_
  rintro e w5 ⟨rfl, hd⟩
  have N8 := Lib.hid ((N7.out.call (below_dr (Below.refl _ _) hd)).put6 (.int .i64 L))
  clear c0 c1 c2 f0 f1 f2 c3 c4 c5 c6 f3 f4 f5 f6
  obtain ⟨⟨c0, c1, c2, f0, f1, f2⟩, c3, c4, c5, c6, f3, f4, f5, f6⟩ := N7.out.pr.below (below_dr (Below.refl _ _) hd)
  clear hd
  obtain ⟨W8, hW8⟩ : ∃ W', w5.setCell ⟨w2.heap.size, 6, none⟩ (.int .i64 L) = W' := ⟨_, rfl⟩
  rw [hW8] at N8
  have HW8 := Lib.hid hW8
  clear hW8
  have hLi : (120 : Int) < (L : Int) := by omega
  go_upto_region 7 with fail
  try rw [HW8.out]
  clear c0 c1 c2 f0 f1 f2 c3 c4 c5 c6 f3 f4 f5 f6
  obtain ⟨⟨c0, c1, c2, f0, f1, f2⟩, c3, c4, c5, c6, f3, f4, f5, f6⟩ := N8.out.pr
  obtain ⟨⟨d0, d1, d2, e0, e1, e2⟩, d3, d4, d5, d6, e3, e4, e5, e6⟩ := N8.out.res
  have HP := Lib.hid (show GivesPBadV 3 w (.returned (.tuple #[(.agg #[.slice none 0 0, .int .i64 0, .int .i64 0, .slice none 0 0, .int .i64 0, .int .i64 0, .int .i64 0]), .int .i64 3])) (((((((W8.setCell ⟨w.heap.size + 2, 0, none⟩ (.slice none 0 0)).setCell ⟨w.heap.size + 2, 1, none⟩ (.int .i64 0)).setCell ⟨w.heap.size + 2, 2, none⟩ (.int .i64 0)).setCell ⟨w.heap.size + 2, 3, none⟩ (.slice none 0 0)).setCell ⟨w.heap.size + 2, 4, none⟩ (.int .i64 0)).setCell ⟨w.heap.size + 2, 5, none⟩ (.int .i64 0)).setCell ⟨w.heap.size + 2, 6, none⟩ (.int .i64 0)) from ⟨rfl, by have hp := N8.out.hp; exact below_v7 N8.out.below (by omega) _ _ _ _ _ _ _⟩)
  go_wp2_with fail
  exact bodyPost_ret (v := .tuple #[(.agg #[.slice none 0 0, .int .i64 0, .int .i64 0, .slice none 0 0, .int .i64 0, .int .i64 0, .int .i64 0]), .int .i64 3]) (by simp [results, Try.results120, go_sem, d0, d1, d2, d3, d4, d5, d6]) rfl HP.out

set_option maxRecDepth 100000 in
set_option maxHeartbeats 6400000 in
theorem vpaired_bad (a1 : Option Addr) (n1 cap1 : Nat) (z1 : List Int) (p1 i1 : Int) (hp1 : In64 p1) (hi1 : In64 i1) (a2 : Option Addr) (n2 cap2 : Nat) (z2 : List Int) (p2 i2 : Int) (hp2 : In64 p2) (hi2 : In64 i2) (hv : okC z1 p1 i1 = false ∨ okC z2 p2 i2 = false) (w : World) (h1 : RowZ w a1 n1 cap1 z1) (h2 : RowZ w a2 n2 cap2 z2) :
    Calls Try.prog 120 #[curV a1 n1 cap1 p1 i1, curV a2 n2 cap2 p2 i2] w (GivesPBadV 1 w) := by
  obtain ⟨W, hW⟩ : ∃ W, ((w.alloc (.cells #[.slice a1 n1 cap1, .int .i64 p1, .int .i64 i1] 24)).alloc (.cells #[.slice a2 n2 cap2, .int .i64 p2, .int .i64 i2] 24)).alloc (.cells #[.slice none 0 0, .int .i64 0, .int .i64 0, .slice none 0 0, .int .i64 0, .int .i64 0, .int .i64 0] 130) = W := ⟨_, rfl⟩
  have hB : Below w.heap.size w W := by rw [← hW]; exact (((Below.refl _ _).alloc (Nat.le_refl _) _).alloc (by simp) _).alloc (by simp; omega) _
  have K2 := Lib.hid (show Cur3 W (w.heap.size + 1) (.slice a2 n2 cap2) (.int .i64 p2) (.int .i64 i2) by rw [← hW]; exact (Cur3.new2 w _ _ _ _ _).alloc _)
  have KR := Lib.hid (show P7 W (w.heap.size + 2) (.slice none 0 0) (.int .i64 0) (.int .i64 0) (.slice none 0 0) (.int .i64 0) (.int .i64 0) (.int .i64 0) by
    rw [← hW]
    have := p7_new ((w.alloc (.cells #[.slice a1 n1 cap1, .int .i64 p1, .int .i64 i1] 24)).alloc (.cells #[.slice a2 n2 cap2, .int .i64 p2, .int .i64 i2] 24)) (.slice none 0 0) (.int .i64 0) (.int .i64 0) (.slice none 0 0) (.int .i64 0) (.int .i64 0) (.int .i64 0) 130
    simpa using this)
  have HR := Lib.hid (And.intro (h1.under hB) (h2.under hB))
  have HB := Lib.hid hB
  have HI := Lib.hid (And.intro (And.intro hp1 hi1) (And.intro hp2 hi2))
  have HV := Lib.hid hv
  have HW := Lib.hid hW
  clear hB hW h1 h2 hp1 hi1 hp2 hi2 hv
  go_enter Try.func120, Try.ntmps120
  go_wp2_with fail
  try rw [HW.out]
  cases hv1 : okC z1 p1 i1 with
  | false =>
    have HV1 := Lib.hid hv1
    clear hv1
    refine (valid_any a1 n1 cap1 z1 p1 i1 HI.out.1.1 HI.out.1.2 false HV1.out _ HR.out.1).mono ?_
    rintro e w1 ⟨rfl, hb⟩
    have BZ := Lib.hid (HB.out.trans (hb.mono HB.out.size))
    have HP := Lib.hid (show GivesPBadV 1 w (.returned (.tuple #[(.agg #[.slice none 0 0, .int .i64 0, .int .i64 0, .slice none 0 0, .int .i64 0, .int .i64 0, .int .i64 0]), .int .i64 1])) (((((((w1.setCell ⟨w.heap.size + 2, 0, none⟩ (.slice none 0 0)).setCell ⟨w.heap.size + 2, 1, none⟩ (.int .i64 0)).setCell ⟨w.heap.size + 2, 2, none⟩ (.int .i64 0)).setCell ⟨w.heap.size + 2, 3, none⟩ (.slice none 0 0)).setCell ⟨w.heap.size + 2, 4, none⟩ (.int .i64 0)).setCell ⟨w.heap.size + 2, 5, none⟩ (.int .i64 0)).setCell ⟨w.heap.size + 2, 6, none⟩ (.int .i64 0)) from ⟨rfl, below_v7 BZ.out (by omega) _ _ _ _ _ _ _⟩)
    obtain ⟨⟨x0, x1', x2', f0, f1, f2⟩, x3, x4, x5, x6, f3, f4, f5, f6⟩ := KR.out.below hb
    clear hb
    go_wp2_with fail
    exact bodyPost_ret (v := .tuple #[(.agg #[.slice none 0 0, .int .i64 0, .int .i64 0, .slice none 0 0, .int .i64 0, .int .i64 0, .int .i64 0]), .int .i64 1]) (by simp [results, Try.results120, go_sem, x0, x1', x2', x3, x4, x5, x6]) rfl HP.out
  | true =>
    have HV1 := Lib.hid hv1
    have HV2 := Lib.hid (show okC z2 p2 i2 = false from HV.out.resolve_left (by rw [hv1]; decide))
    clear hv1
    refine (valid_any a1 n1 cap1 z1 p1 i1 HI.out.1.1 HI.out.1.2 true HV1.out _ HR.out.1).mono ?_
    rintro e w1 ⟨rfl, hb⟩
    have KR1 := Lib.hid (KR.out.below hb)
    have B1 := Lib.hid (HB.out.trans (hb.mono HB.out.size))
    have R1 := Lib.hid (HR.out.2.under hb)
    obtain ⟨c0, c1, c2, f0, f1, f2⟩ := K2.out.below hb
    clear hb
    go_wp2_with fail
    clear c0 c1 c2 f0 f1 f2
    refine (valid_any a2 n2 cap2 z2 p2 i2 HI.out.2.1 HI.out.2.2 false HV2.out _ R1.out).mono ?_
    rintro e w2 ⟨rfl, hb⟩
    have BZ := Lib.hid (B1.out.trans (hb.mono B1.out.size))
    have HP := Lib.hid (show GivesPBadV 1 w (.returned (.tuple #[(.agg #[.slice none 0 0, .int .i64 0, .int .i64 0, .slice none 0 0, .int .i64 0, .int .i64 0, .int .i64 0]), .int .i64 1])) (((((((w2.setCell ⟨w.heap.size + 2, 0, none⟩ (.slice none 0 0)).setCell ⟨w.heap.size + 2, 1, none⟩ (.int .i64 0)).setCell ⟨w.heap.size + 2, 2, none⟩ (.int .i64 0)).setCell ⟨w.heap.size + 2, 3, none⟩ (.slice none 0 0)).setCell ⟨w.heap.size + 2, 4, none⟩ (.int .i64 0)).setCell ⟨w.heap.size + 2, 5, none⟩ (.int .i64 0)).setCell ⟨w.heap.size + 2, 6, none⟩ (.int .i64 0)) from ⟨rfl, below_v7 BZ.out (by omega) _ _ _ _ _ _ _⟩)
    obtain ⟨⟨x0, x1', x2', f0, f1, f2⟩, x3, x4, x5, x6, f3, f4, f5, f6⟩ := KR1.out.below hb
    clear hb
    go_wp2_with fail
    exact bodyPost_ret (v := .tuple #[(.agg #[.slice none 0 0, .int .i64 0, .int .i64 0, .slice none 0 0, .int .i64 0, .int .i64 0, .int .i64 0]), .int .i64 1]) (by simp [results, Try.results120, go_sem, x0, x1', x2', x3, x4, x5, x6]) rfl HP.out

set_option maxRecDepth 100000 in
set_option maxHeartbeats 6400000 in
theorem delay_err (a1 : Option Addr) (n1 cap1 : Nat) (z1 : List Int) (p1 i1 : Int) (a2 : Option Addr) (n2 cap2 : Nat) (z2 : List Int) (p2 i2 : Int) (c : Int) (hc : c = 1 ∨ c = 3) (w : World) (h1 : RowZ w a1 n1 cap1 z1) (h2 : RowZ w a2 n2 cap2 z2) (hC : ∀ u, RowZ u a1 n1 cap1 z1 → RowZ u a2 n2 cap2 z2 → Calls Try.prog 120 #[curV a1 n1 cap1 p1 i1, curV a2 n2 cap2 p2 i2] u (GivesPBadV c u)) :
    Calls Try.prog 56 #[curV a1 n1 cap1 p1 i1, curV a2 n2 cap2 p2 i2] w (Says (.tuple #[.agg #[.bool false, .int .i64 0, .int .i64 0], .int .i64 c]) w) := by
  have t1 : (c != 0) = true := by rcases hc with rfl | rfl <;> rfl
  clear hc
  obtain ⟨W, hW⟩ : ∃ W, ((w.alloc (.cells #[.slice a1 n1 cap1, .int .i64 p1, .int .i64 i1] 24)).alloc (.cells #[.slice a2 n2 cap2, .int .i64 p2, .int .i64 i2] 24)).alloc (.cells #[.bool false, .int .i64 0, .int .i64 0] 74) = W := ⟨_, rfl⟩
  have hB : Below w.heap.size w W := by rw [← hW]; exact (((Below.refl _ _).alloc (Nat.le_refl _) _).alloc (by simp) _).alloc (by simp; omega) _
  have k1 : Cur3 W w.heap.size (.slice a1 n1 cap1) (.int .i64 p1) (.int .i64 i1) := by rw [← hW]; exact ((Cur3.new w _ _ _ _).alloc _).alloc _
  have k2 : Cur3 W (w.heap.size + 1) (.slice a2 n2 cap2) (.int .i64 p2) (.int .i64 i2) := by rw [← hW]; exact (Cur3.new2 w _ _ _ _ _).alloc _
  have k3 : Cur3 W (w.heap.size + 2) (.bool false) (.int .i64 0) (.int .i64 0) := by
    rw [← hW]
    have := Cur3.new ((w.alloc (.cells #[.slice a1 n1 cap1, .int .i64 p1, .int .i64 i1] 24)).alloc (.cells #[.slice a2 n2 cap2, .int .i64 p2, .int .i64 i2] 24)) (.bool false) (.int .i64 0) (.int .i64 0) 74
    simpa using this
  have K3 := Lib.hid k3
  have HB := Lib.hid hB
  have HR := Lib.hid (And.intro (h1.under hB) (h2.under hB))
  have HC := Lib.hid hC
  have HW := Lib.hid hW
  obtain ⟨c0, c1, c2, f0, f1, f2⟩ := k1
  obtain ⟨d0, d1, d2, e0, e1, e2⟩ := k2
  clear hW hB k3 hC h1 h2
  go_enter Try.func56, Try.ntmps56
  go_upto_region 1 with fail
  try rw [HW.out]
  go_wp2_with fail
  clear c0 c1 c2 f0 f1 f2 d0 d1 d2 e0 e1 e2
  refine (HC.out _ HR.out.1 HR.out.2).mono ?_
  rintro e w1 ⟨rfl, hb⟩
  obtain ⟨w2, hw⟩ : ∃ u, w1.alloc (.cells #[.slice none 0 0, .int .i64 0, .int .i64 0, .slice none 0 0, .int .i64 0, .int .i64 0, .int .i64 0] 130) = u := ⟨_, rfl⟩
  have hz : Below w1.heap.size w1 w2 := by rw [← hw]; exact (Below.refl _ _).alloc (Nat.le_refl _) _
  have hz2 := hb.trans (hz.mono hb.size)
  have HB1 := Lib.hid (HB.out.trans (hz2.mono HB.out.size))
  obtain ⟨r0, r1, r2, g0, g1, g2⟩ := K3.out.below hz2
  have HB2 := Lib.hid (show Below w.heap.size w (((w2.setCell ⟨w.heap.size + 2, 0, none⟩ (.bool false)).setCell ⟨w.heap.size + 2, 1, none⟩ (.int .i64 0)).setCell ⟨w.heap.size + 2, 2, none⟩ (.int .i64 0)) from below_set3 HB1.out (by omega) _ _ _)
  have HW2 := Lib.hid hw
  clear hb hz hz2 hw
  go_upto_region 2 with fail
  try rw [HW2.out]
  go_wp2_with fail
  exact bodyPost_ret (v := (.tuple #[.agg #[.bool false, .int .i64 0, .int .i64 0], .int .i64 c])) (by simp [results, Try.results56, go_sem, r0, r1, r2]) rfl ⟨rfl, HB2.out⟩

set_option maxRecDepth 100000 in
set_option maxHeartbeats 6400000 in
theorem backlog_err (a1 : Option Addr) (n1 cap1 : Nat) (z1 : List Int) (p1 i1 : Int) (a2 : Option Addr) (n2 cap2 : Nat) (z2 : List Int) (p2 i2 : Int) (c : Int) (hc : c = 1 ∨ c = 3) (w : World) (h1 : RowZ w a1 n1 cap1 z1) (h2 : RowZ w a2 n2 cap2 z2) (hC : ∀ u, RowZ u a1 n1 cap1 z1 → RowZ u a2 n2 cap2 z2 → Calls Try.prog 120 #[curV a1 n1 cap1 p1 i1, curV a2 n2 cap2 p2 i2] u (GivesPBadV c u)) :
    Calls Try.prog 58 #[curV a1 n1 cap1 p1 i1, curV a2 n2 cap2 p2 i2] w (Says (.tuple #[.agg #[.bool false, .int .i64 0, .int .i64 0], .int .i64 c]) w) := by
  have t1 : (c != 0) = true := by rcases hc with rfl | rfl <;> rfl
  clear hc
  obtain ⟨W, hW⟩ : ∃ W, ((w.alloc (.cells #[.slice a1 n1 cap1, .int .i64 p1, .int .i64 i1] 24)).alloc (.cells #[.slice a2 n2 cap2, .int .i64 p2, .int .i64 i2] 24)).alloc (.cells #[.bool false, .int .i64 0, .int .i64 0] 74) = W := ⟨_, rfl⟩
  have hB : Below w.heap.size w W := by rw [← hW]; exact (((Below.refl _ _).alloc (Nat.le_refl _) _).alloc (by simp) _).alloc (by simp; omega) _
  have k1 : Cur3 W w.heap.size (.slice a1 n1 cap1) (.int .i64 p1) (.int .i64 i1) := by rw [← hW]; exact ((Cur3.new w _ _ _ _).alloc _).alloc _
  have k2 : Cur3 W (w.heap.size + 1) (.slice a2 n2 cap2) (.int .i64 p2) (.int .i64 i2) := by rw [← hW]; exact (Cur3.new2 w _ _ _ _ _).alloc _
  have k3 : Cur3 W (w.heap.size + 2) (.bool false) (.int .i64 0) (.int .i64 0) := by
    rw [← hW]
    have := Cur3.new ((w.alloc (.cells #[.slice a1 n1 cap1, .int .i64 p1, .int .i64 i1] 24)).alloc (.cells #[.slice a2 n2 cap2, .int .i64 p2, .int .i64 i2] 24)) (.bool false) (.int .i64 0) (.int .i64 0) 74
    simpa using this
  have K3 := Lib.hid k3
  have HB := Lib.hid hB
  have HR := Lib.hid (And.intro (h1.under hB) (h2.under hB))
  have HC := Lib.hid hC
  have HW := Lib.hid hW
  obtain ⟨c0, c1, c2, f0, f1, f2⟩ := k1
  obtain ⟨d0, d1, d2, e0, e1, e2⟩ := k2
  clear hW hB k3 hC h1 h2
  go_enter Try.func58, Try.ntmps58
  go_upto_region 1 with fail
  try rw [HW.out]
  go_wp2_with fail
  clear c0 c1 c2 f0 f1 f2 d0 d1 d2 e0 e1 e2
  refine (HC.out _ HR.out.1 HR.out.2).mono ?_
  rintro e w1 ⟨rfl, hb⟩
  obtain ⟨w2, hw⟩ : ∃ u, w1.alloc (.cells #[.slice none 0 0, .int .i64 0, .int .i64 0, .slice none 0 0, .int .i64 0, .int .i64 0, .int .i64 0] 130) = u := ⟨_, rfl⟩
  have hz : Below w1.heap.size w1 w2 := by rw [← hw]; exact (Below.refl _ _).alloc (Nat.le_refl _) _
  have hz2 := hb.trans (hz.mono hb.size)
  have HB1 := Lib.hid (HB.out.trans (hz2.mono HB.out.size))
  obtain ⟨r0, r1, r2, g0, g1, g2⟩ := K3.out.below hz2
  have HB2 := Lib.hid (show Below w.heap.size w (((w2.setCell ⟨w.heap.size + 2, 0, none⟩ (.bool false)).setCell ⟨w.heap.size + 2, 1, none⟩ (.int .i64 0)).setCell ⟨w.heap.size + 2, 2, none⟩ (.int .i64 0)) from below_set3 HB1.out (by omega) _ _ _)
  have HW2 := Lib.hid hw
  clear hb hz hz2 hw
  go_upto_region 2 with fail
  try rw [HW2.out]
  go_wp2_with fail
  exact bodyPost_ret (v := (.tuple #[.agg #[.bool false, .int .i64 0, .int .i64 0], .int .i64 c])) (by simp [results, Try.results58, go_sem, r0, r1, r2]) rfl ⟨rfl, HB2.out⟩

set_option maxRecDepth 100000 in
set_option maxHeartbeats 6400000 in
theorem peak_err (a1 : Option Addr) (n1 cap1 : Nat) (z1 : List Int) (p1 i1 : Int) (a2 : Option Addr) (n2 cap2 : Nat) (z2 : List Int) (p2 i2 : Int) (c : Int) (hc : c = 1 ∨ c = 3) (w : World) (h1 : RowZ w a1 n1 cap1 z1) (h2 : RowZ w a2 n2 cap2 z2) (hC : ∀ u, RowZ u a1 n1 cap1 z1 → RowZ u a2 n2 cap2 z2 → Calls Try.prog 120 #[curV a1 n1 cap1 p1 i1, curV a2 n2 cap2 p2 i2] u (GivesPBadV c u)) :
    Calls Try.prog 60 #[curV a1 n1 cap1 p1 i1, curV a2 n2 cap2 p2 i2] w (Says (.tuple #[.agg #[.bool false, .int .i64 0, .int .i64 0], .int .i64 c]) w) := by
  have t1 : (c != 0) = true := by rcases hc with rfl | rfl <;> rfl
  clear hc
  obtain ⟨W, hW⟩ : ∃ W, ((w.alloc (.cells #[.slice a1 n1 cap1, .int .i64 p1, .int .i64 i1] 24)).alloc (.cells #[.slice a2 n2 cap2, .int .i64 p2, .int .i64 i2] 24)).alloc (.cells #[.bool false, .int .i64 0, .int .i64 0] 74) = W := ⟨_, rfl⟩
  have hB : Below w.heap.size w W := by rw [← hW]; exact (((Below.refl _ _).alloc (Nat.le_refl _) _).alloc (by simp) _).alloc (by simp; omega) _
  have k1 : Cur3 W w.heap.size (.slice a1 n1 cap1) (.int .i64 p1) (.int .i64 i1) := by rw [← hW]; exact ((Cur3.new w _ _ _ _).alloc _).alloc _
  have k2 : Cur3 W (w.heap.size + 1) (.slice a2 n2 cap2) (.int .i64 p2) (.int .i64 i2) := by rw [← hW]; exact (Cur3.new2 w _ _ _ _ _).alloc _
  have k3 : Cur3 W (w.heap.size + 2) (.bool false) (.int .i64 0) (.int .i64 0) := by
    rw [← hW]
    have := Cur3.new ((w.alloc (.cells #[.slice a1 n1 cap1, .int .i64 p1, .int .i64 i1] 24)).alloc (.cells #[.slice a2 n2 cap2, .int .i64 p2, .int .i64 i2] 24)) (.bool false) (.int .i64 0) (.int .i64 0) 74
    simpa using this
  have K3 := Lib.hid k3
  have HB := Lib.hid hB
  have HR := Lib.hid (And.intro (h1.under hB) (h2.under hB))
  have HC := Lib.hid hC
  have HW := Lib.hid hW
  obtain ⟨c0, c1, c2, f0, f1, f2⟩ := k1
  obtain ⟨d0, d1, d2, e0, e1, e2⟩ := k2
  clear hW hB k3 hC h1 h2
  go_enter Try.func60, Try.ntmps60
  go_upto_region 1 with fail
  try rw [HW.out]
  go_wp2_with fail
  clear c0 c1 c2 f0 f1 f2 d0 d1 d2 e0 e1 e2
  refine (HC.out _ HR.out.1 HR.out.2).mono ?_
  rintro e w1 ⟨rfl, hb⟩
  obtain ⟨w2, hw⟩ : ∃ u, w1.alloc (.cells #[.slice none 0 0, .int .i64 0, .int .i64 0, .slice none 0 0, .int .i64 0, .int .i64 0, .int .i64 0] 130) = u := ⟨_, rfl⟩
  have hz : Below w1.heap.size w1 w2 := by rw [← hw]; exact (Below.refl _ _).alloc (Nat.le_refl _) _
  have hz2 := hb.trans (hz.mono hb.size)
  have HB1 := Lib.hid (HB.out.trans (hz2.mono HB.out.size))
  obtain ⟨r0, r1, r2, g0, g1, g2⟩ := K3.out.below hz2
  have HB2 := Lib.hid (show Below w.heap.size w (((w2.setCell ⟨w.heap.size + 2, 0, none⟩ (.bool false)).setCell ⟨w.heap.size + 2, 1, none⟩ (.int .i64 0)).setCell ⟨w.heap.size + 2, 2, none⟩ (.int .i64 0)) from below_set3 HB1.out (by omega) _ _ _)
  have HW2 := Lib.hid hw
  clear hb hz hz2 hw
  go_upto_region 2 with fail
  try rw [HW2.out]
  go_wp2_with fail
  exact bodyPost_ret (v := (.tuple #[.agg #[.bool false, .int .i64 0, .int .i64 0], .int .i64 c])) (by simp [results, Try.results60, go_sem, r0, r1, r2]) rfl ⟨rfl, HB2.out⟩

set_option maxRecDepth 100000 in
set_option maxHeartbeats 6400000 in
theorem rdelay10_bad (a1 : Option Addr) (n1 cap1 : Nat) (z1 : List Int) (p1 i1 : Int) (a2 : Option Addr) (n2 cap2 : Nat) (z2 : List Int) (p2 i2 : Int) (hp1 : In64 p1) (hi1 : In64 i1) (hp2 : In64 p2) (hi2 : In64 i2) (hv : okC z1 p1 i1 = false ∨ okC z2 p2 i2 = false) (w : World) (h1 : RowZ w a1 n1 cap1 z1) (h2 : RowZ w a2 n2 cap2 z2) :
    Calls Try.prog 57 #[curV a1 n1 cap1 p1 i1, curV a2 n2 cap2 p2 i2] w (Says (.tuple #[.agg #[.bool false, .int .i64 0, .int .i64 0], .int .i64 1]) w) := by
  obtain ⟨W, hW⟩ : ∃ W, ((w.alloc (.cells #[.slice a1 n1 cap1, .int .i64 p1, .int .i64 i1] 24)).alloc (.cells #[.slice a2 n2 cap2, .int .i64 p2, .int .i64 i2] 24)).alloc (.cells #[.bool false, .int .i64 0, .int .i64 0] 74) = W := ⟨_, rfl⟩
  have hB : Below w.heap.size w W := by rw [← hW]; exact (((Below.refl _ _).alloc (Nat.le_refl _) _).alloc (by simp) _).alloc (by simp; omega) _
  have k1 : Cur3 W w.heap.size (.slice a1 n1 cap1) (.int .i64 p1) (.int .i64 i1) := by rw [← hW]; exact ((Cur3.new w _ _ _ _).alloc _).alloc _
  have k2 : Cur3 W (w.heap.size + 1) (.slice a2 n2 cap2) (.int .i64 p2) (.int .i64 i2) := by rw [← hW]; exact (Cur3.new2 w _ _ _ _ _).alloc _
  have k3 : Cur3 W (w.heap.size + 2) (.bool false) (.int .i64 0) (.int .i64 0) := by
    rw [← hW]
    have := Cur3.new ((w.alloc (.cells #[.slice a1 n1 cap1, .int .i64 p1, .int .i64 i1] 24)).alloc (.cells #[.slice a2 n2 cap2, .int .i64 p2, .int .i64 i2] 24)) (.bool false) (.int .i64 0) (.int .i64 0) 74
    simpa using this
  have K3 := Lib.hid k3
  have HB := Lib.hid hB
  have HR := Lib.hid (And.intro (h1.under hB) (h2.under hB))
  have HV := Lib.hid (And.intro (And.intro hp1 hi1) (And.intro (And.intro hp2 hi2) hv))
  have HW := Lib.hid hW
  obtain ⟨c0, c1, c2, f0, f1, f2⟩ := k1
  obtain ⟨d0, d1, d2, e0, e1, e2⟩ := k2
  clear hW hB k3 hp1 hi1 hp2 hi2 hv h1 h2
  go_enter Try.func57, Try.ntmps57
  go_upto_region 1 with fail
  try rw [HW.out]
  go_wp2_with fail
  clear c0 c1 c2 f0 f1 f2 d0 d1 d2 e0 e1 e2
  refine (rpair_bad a1 n1 cap1 z1 p1 i1 HV.out.1.1 HV.out.1.2 a2 n2 cap2 z2 p2 i2 HV.out.2.1.1 HV.out.2.1.2 HV.out.2.2 _ HR.out.1 HR.out.2).mono ?_
  rintro e w1 ⟨b1, m1, c1, q1, j1, b2, m2, c2, q2, j2, rfl, hb⟩
  obtain ⟨w2, hw⟩ : ∃ u, (w1.alloc (.cells #[.slice b1 m1 c1, .int .i64 q1, .int .i64 j1] 24)).alloc (.cells #[.slice b2 m2 c2, .int .i64 q2, .int .i64 j2] 24) = u := ⟨_, rfl⟩
  have hz : Below w1.heap.size w1 w2 := by rw [← hw]; exact ((Below.refl _ _).alloc (Nat.le_refl _) _).alloc (by simp) _
  have hz2 := hb.trans (hz.mono hb.size)
  have HB1 := Lib.hid (HB.out.trans (hz2.mono HB.out.size))
  obtain ⟨r0, r1, r2, g0, g1, g2⟩ := K3.out.below hz2
  have HB2 := Lib.hid (show Below w.heap.size w (((w2.setCell ⟨w.heap.size + 2, 0, none⟩ (.bool false)).setCell ⟨w.heap.size + 2, 1, none⟩ (.int .i64 0)).setCell ⟨w.heap.size + 2, 2, none⟩ (.int .i64 0)) from below_set3 HB1.out (by omega) _ _ _)
  have HW2 := Lib.hid hw
  clear hb hz hz2 hw
  go_upto_region 2 with fail
  try rw [HW2.out]
  go_wp2_with fail
  exact bodyPost_ret (v := (.tuple #[.agg #[.bool false, .int .i64 0, .int .i64 0], .int .i64 1])) (by simp [results, Try.results57, go_sem, r0, r1, r2]) rfl ⟨rfl, HB2.out⟩

set_option maxRecDepth 100000 in
set_option maxHeartbeats 6400000 in
theorem rabove10_bad (a1 : Option Addr) (n1 cap1 : Nat) (z1 : List Int) (p1 i1 : Int) (a2 : Option Addr) (n2 cap2 : Nat) (z2 : List Int) (p2 i2 : Int) (hp1 : In64 p1) (hi1 : In64 i1) (hp2 : In64 p2) (hi2 : In64 i2) (hv : okC z1 p1 i1 = false ∨ okC z2 p2 i2 = false) (d : Int) (w : World) (h1 : RowZ w a1 n1 cap1 z1) (h2 : RowZ w a2 n2 cap2 z2) :
    Calls Try.prog 131 #[curV a1 n1 cap1 p1 i1, curV a2 n2 cap2 p2 i2, .int .i64 d] w (Says (.tuple #[.agg #[.bool false, .int .i64 0, .int .i64 0], .int .i64 1]) w) := by
  obtain ⟨W, hW⟩ : ∃ W, ((w.alloc (.cells #[.slice a1 n1 cap1, .int .i64 p1, .int .i64 i1] 24)).alloc (.cells #[.slice a2 n2 cap2, .int .i64 p2, .int .i64 i2] 24)).alloc (.cells #[.bool false, .int .i64 0, .int .i64 0] 74) = W := ⟨_, rfl⟩
  have hB : Below w.heap.size w W := by rw [← hW]; exact (((Below.refl _ _).alloc (Nat.le_refl _) _).alloc (by simp) _).alloc (by simp; omega) _
  have k1 : Cur3 W w.heap.size (.slice a1 n1 cap1) (.int .i64 p1) (.int .i64 i1) := by rw [← hW]; exact ((Cur3.new w _ _ _ _).alloc _).alloc _
  have k2 : Cur3 W (w.heap.size + 1) (.slice a2 n2 cap2) (.int .i64 p2) (.int .i64 i2) := by rw [← hW]; exact (Cur3.new2 w _ _ _ _ _).alloc _
  have k3 : Cur3 W (w.heap.size + 2) (.bool false) (.int .i64 0) (.int .i64 0) := by
    rw [← hW]
    have := Cur3.new ((w.alloc (.cells #[.slice a1 n1 cap1, .int .i64 p1, .int .i64 i1] 24)).alloc (.cells #[.slice a2 n2 cap2, .int .i64 p2, .int .i64 i2] 24)) (.bool false) (.int .i64 0) (.int .i64 0) 74
    simpa using this
  have K3 := Lib.hid k3
  have HB := Lib.hid hB
  have HR := Lib.hid (And.intro (h1.under hB) (h2.under hB))
  have HV := Lib.hid (And.intro (And.intro hp1 hi1) (And.intro (And.intro hp2 hi2) hv))
  have HW := Lib.hid hW
  obtain ⟨c0, c1, c2, f0, f1, f2⟩ := k1
  obtain ⟨d0, d1, d2, e0, e1, e2⟩ := k2
  clear hW hB k3 hp1 hi1 hp2 hi2 hv h1 h2
  go_enter Try.func131, Try.ntmps131
  go_upto_region 1 with fail
  try rw [HW.out]
  go_wp2_with fail
  clear c0 c1 c2 f0 f1 f2 d0 d1 d2 e0 e1 e2
  refine (rpair_bad a1 n1 cap1 z1 p1 i1 HV.out.1.1 HV.out.1.2 a2 n2 cap2 z2 p2 i2 HV.out.2.1.1 HV.out.2.1.2 HV.out.2.2 _ HR.out.1 HR.out.2).mono ?_
  rintro e w1 ⟨b1, m1, c1, q1, j1, b2, m2, c2, q2, j2, rfl, hb⟩
  obtain ⟨w2, hw⟩ : ∃ u, (w1.alloc (.cells #[.slice b1 m1 c1, .int .i64 q1, .int .i64 j1] 24)).alloc (.cells #[.slice b2 m2 c2, .int .i64 q2, .int .i64 j2] 24) = u := ⟨_, rfl⟩
  have hz : Below w1.heap.size w1 w2 := by rw [← hw]; exact ((Below.refl _ _).alloc (Nat.le_refl _) _).alloc (by simp) _
  have hz2 := hb.trans (hz.mono hb.size)
  have HB1 := Lib.hid (HB.out.trans (hz2.mono HB.out.size))
  obtain ⟨r0, r1, r2, g0, g1, g2⟩ := K3.out.below hz2
  have HB2 := Lib.hid (show Below w.heap.size w (((w2.setCell ⟨w.heap.size + 2, 0, none⟩ (.bool false)).setCell ⟨w.heap.size + 2, 1, none⟩ (.int .i64 0)).setCell ⟨w.heap.size + 2, 2, none⟩ (.int .i64 0)) from below_set3 HB1.out (by omega) _ _ _)
  have HW2 := Lib.hid hw
  clear hb hz hz2 hw
  go_upto_region 2 with fail
  try rw [HW2.out]
  go_wp2_with fail
  exact bodyPost_ret (v := (.tuple #[.agg #[.bool false, .int .i64 0, .int .i64 0], .int .i64 1])) (by simp [results, Try.results131, go_sem, r0, r1, r2]) rfl ⟨rfl, HB2.out⟩

end Go.Proofs.Ytjjaaknjdmijbaa

namespace Go.Proofs.Ytjjaaknjdmijbaa
open Go.RowKit
set_option linter.unusedSimpArgs false
set_option linter.unusedVariables false

abbrev devT (i : Bool) (m : Int) (k : Nat) (c : Int) : Value := .tuple #[.agg #[.bool i, .int .i64 m, .int .i64 (k : Int)], .int .i64 c]
theorem dev_pick (P : Bool → Int → Nat → Prop) (hu : ∀ i m k i' m' k', P i m k → P i' m' k' → i = i' ∧ m = m' ∧ k = k') : ∃ i m k, ∀ w e w', GivesDev P w e w' → Says (devT i m k 0) w e w' := by
  by_cases h : ∃ i m k, P i m k
  · obtain ⟨i, m, k, h⟩ := h
    refine ⟨i, m, k, fun w e w' q => ?_⟩
    obtain ⟨i', m', k', rfl, hb, h'⟩ := q
    obtain ⟨rfl, rfl, rfl⟩ := hu _ _ _ _ _ _ h h'
    exact ⟨rfl, hb⟩
  · exact ⟨false, 0, 0, fun w e w' ⟨i', m', k', _, _, h'⟩ => absurd ⟨_, _, _, h'⟩ h⟩
theorem DevB.unique {a b : Nat → Option Int} {i j : Bool} {m n : Int} {k l : Nat} (h : DevB a b i m k) (h' : DevB a b j n l) : i = j ∧ m = n ∧ k = l := h.1.unique h'.1
/-- The six answers for two curves. -/
def DvU (z1 : List Int) (p1 i1 : Int) (z2 : List Int) (p2 i2 : Int) (T1 T2 T3 : Value) : Prop :=
  ∀ (a1 : Option Addr) (n1 cap1 : Nat) (a2 : Option Addr) (n2 cap2 : Nat) (w : World), RowZ w a1 n1 cap1 z1 → RowZ w a2 n2 cap2 z2 →
    Calls Try.prog 56 #[curV a1 n1 cap1 p1 i1, curV a2 n2 cap2 p2 i2] w (Says T1 w) ∧
    Calls Try.prog 57 #[curV a1 n1 cap1 p1 i1, curV a2 n2 cap2 p2 i2] w (Says T1 w) ∧
    Calls Try.prog 58 #[curV a1 n1 cap1 p1 i1, curV a2 n2 cap2 p2 i2] w (Says T2 w) ∧
    Calls Try.prog 59 #[curV a1 n1 cap1 p1 i1, curV a2 n2 cap2 p2 i2] w (Says T2 w) ∧
    Calls Try.prog 60 #[curV a1 n1 cap1 p1 i1, curV a2 n2 cap2 p2 i2] w (Says T3 w) ∧
    Calls Try.prog 61 #[curV a1 n1 cap1 p1 i1, curV a2 n2 cap2 p2 i2] w (Says T3 w)
theorem dv_u {z1 z2 : List Int} {p1 i1 p2 i2 : Int} (hp1 : In64 p1) (hi1 : In64 i1) (hp2 : In64 p2) (hi2 : In64 i2) :
    ∃ (b1 : Bool) (m1 : Int) (k1 : Nat) (b2 : Bool) (m2 : Int) (k2 : Nat) (b3 : Bool) (m3 : Int) (k3 : Nat) (c : Int), DvU z1 p1 i1 z2 p2 i2 (devT b1 m1 k1 c) (devT b2 m2 k2 c) (devT b3 m3 k3 c) := by
  by_cases hv : okC z1 p1 i1 = false ∨ okC z2 p2 i2 = false
  · refine ⟨false, 0, 0, false, 0, 0, false, 0, 0, 1, fun a1 n1 cap1 a2 n2 cap2 w h1 h2 => ?_⟩
    have hC := fun u k1 k2 => vpaired_bad a1 n1 cap1 z1 p1 i1 hp1 hi1 a2 n2 cap2 z2 p2 i2 hp2 hi2 hv u k1 k2
    exact ⟨delay_err a1 n1 cap1 z1 p1 i1 a2 n2 cap2 z2 p2 i2 1 (.inl rfl) w h1 h2 hC, rdelay10_bad a1 n1 cap1 z1 p1 i1 a2 n2 cap2 z2 p2 i2 hp1 hi1 hp2 hi2 hv w h1 h2,
      backlog_err a1 n1 cap1 z1 p1 i1 a2 n2 cap2 z2 p2 i2 1 (.inl rfl) w h1 h2 hC, rbacklog10_of a1 n1 cap1 z1 p1 i1 a2 n2 cap2 z2 p2 i2 false 0 0 1 w h1 h2 fun u k1 k2 => rabove10_bad a1 n1 cap1 z1 p1 i1 a2 n2 cap2 z2 p2 i2 hp1 hi1 hp2 hi2 hv 0 u k1 k2,
      peak_err a1 n1 cap1 z1 p1 i1 a2 n2 cap2 z2 p2 i2 1 (.inl rfl) w h1 h2 hC, rpeak10_of a1 n1 cap1 z1 p1 i1 a2 n2 cap2 z2 p2 i2 false 0 0 1 w h1 h2 fun u k1 k2 => rabove10_bad a1 n1 cap1 z1 p1 i1 a2 n2 cap2 z2 p2 i2 hp1 hi1 hp2 hi2 hv 1 u k1 k2⟩
  · have v1 : okC z1 p1 i1 = true := by cases h : okC z1 p1 i1; exact absurd (.inl h) hv; rfl
    have v2 : okC z2 p2 i2 = true := by cases h : okC z2 p2 i2; exact absurd (.inr h) hv; rfl
    clear hv
    obtain ⟨q1, rfl, g1⟩ := okC_pos v1
    obtain ⟨q2, rfl, g2⟩ := okC_pos v2
    obtain ⟨y1, r1, j1, hn1⟩ := g1.norm_ex
    obtain ⟨y2, r2, j2, hn2⟩ := g2.norm_ex
    obtain ⟨L, hL⟩ : ∃ L, r1 / Nat.gcd r1 r2 * r2 = L := ⟨_, rfl⟩
    have hLN : LcmN z1 q1 i1 z2 q2 i2 L := ⟨y1, r1, j1, y2, r2, j2, hn1, hn2, hL⟩
    by_cases h120 : 120 < L
    · refine ⟨false, 0, 0, false, 0, 0, false, 0, 0, 3, fun a1 n1 cap1 a2 n2 cap2 w h1 h2 => ?_⟩
      have hC := fun u k1 k2 => vpaired_lim a1 n1 cap1 z1 q1 i1 g1 a2 n2 cap2 z2 q2 i2 g2 hn1 hn2 L hL h120 u k1 k2
      exact ⟨delay_err a1 n1 cap1 z1 q1 i1 a2 n2 cap2 z2 q2 i2 3 (.inr rfl) w h1 h2 hC, rdelay10_lim a1 n1 cap1 z1 q1 i1 g1 a2 n2 cap2 z2 q2 i2 g2 L hLN h120 w h1 h2,
        backlog_err a1 n1 cap1 z1 q1 i1 a2 n2 cap2 z2 q2 i2 3 (.inr rfl) w h1 h2 hC, rbacklog10_of a1 n1 cap1 z1 q1 i1 a2 n2 cap2 z2 q2 i2 false 0 0 3 w h1 h2 fun u k1 k2 => rabove10_lim a1 n1 cap1 z1 q1 i1 g1 a2 n2 cap2 z2 q2 i2 g2 0 (by omega) L hLN h120 u k1 k2,
        peak_err a1 n1 cap1 z1 q1 i1 a2 n2 cap2 z2 q2 i2 3 (.inr rfl) w h1 h2 hC, rpeak10_of a1 n1 cap1 z1 q1 i1 a2 n2 cap2 z2 q2 i2 false 0 0 3 w h1 h2 fun u k1 k2 => rabove10_lim a1 n1 cap1 z1 q1 i1 g1 a2 n2 cap2 z2 q2 i2 g2 1 (by omega) L hLN h120 u k1 k2⟩
    · have hl : L ≤ 120 := by omega
      obtain ⟨b1, m1, k1, u1⟩ := dev_pick (DevD (eC z1 q1 i1) (eC z2 q2 i2)) fun _ _ _ _ _ _ h h' => h.unique (up_eC g2) h'
      obtain ⟨b2, m2, k2, u2⟩ := dev_pick (DevB (eC z1 q1 i1) (eC z2 q2 i2)) fun _ _ _ _ _ _ h h' => h.unique h'
      obtain ⟨b3, m3, k3, u3⟩ := dev_pick (DevB (fun t => eC z1 q1 i1 (t + 1)) (eC z2 q2 i2)) fun _ _ _ _ _ _ h h' => h.unique h'
      refine ⟨b1, m1, k1, b2, m2, k2, b3, m3, k3, 0, fun a1 n1 cap1 a2 n2 cap2 w h1 h2 => ?_⟩
      exact ⟨(delay_ok a1 n1 cap1 z1 q1 i1 g1 a2 n2 cap2 z2 q2 i2 g2 hn1 hn2 L hL hl w h1 h2).mono fun _ _ h => u1 _ _ _ h, (rdelay10_ok a1 n1 cap1 z1 q1 i1 g1 a2 n2 cap2 z2 q2 i2 g2 L hLN hl w h1 h2).mono fun _ _ h => u1 _ _ _ h,
        (backlog_ok a1 n1 cap1 z1 q1 i1 g1 a2 n2 cap2 z2 q2 i2 g2 hn1 hn2 L hL hl w h1 h2).mono fun _ _ h => u2 _ _ _ h, rbacklog10_of a1 n1 cap1 z1 q1 i1 a2 n2 cap2 z2 q2 i2 b2 m2 k2 0 w h1 h2 fun u k1 k2 => (rabove10_ok a1 n1 cap1 z1 q1 i1 g1 a2 n2 cap2 z2 q2 i2 g2 0 (by omega) L hLN hl u k1 k2).mono fun _ _ h => u2 _ _ _ h,
        (peak_ok a1 n1 cap1 z1 q1 i1 g1 a2 n2 cap2 z2 q2 i2 g2 hn1 hn2 L hL hl w h1 h2).mono fun _ _ h => u3 _ _ _ h, rpeak10_of a1 n1 cap1 z1 q1 i1 a2 n2 cap2 z2 q2 i2 b3 m3 k3 0 w h1 h2 fun u k1 k2 => (rabove10_ok a1 n1 cap1 z1 q1 i1 g1 a2 n2 cap2 z2 q2 i2 g2 1 (by omega) L hLN hl u k1 k2).mono fun _ _ h => u3 _ _ _ h⟩
/-- The two answers for a curve and a number. -/
def RcU (z : List Int) (p inc : Int) (x : Int) (T : Value) : Prop :=
  ∀ (a : Option Addr) (n cap : Nat) (w : World), RowZ w a n cap z →
    Calls Try.prog 63 #[curV a n cap p inc, .int .i64 x] w (Says T w) ∧
    Calls Try.prog 64 #[curV a n cap p inc, .int .i64 x] w (Says T w)
theorem rc_u {z : List Int} {p inc : Int} (hp : In64 p) (hi : In64 inc) (x : Int) : ∃ (k : Nat) (o : Bool) (c : Int), RcU z p inc x (.tuple #[.int .i64 (k : Int), .bool o, .int .i64 c]) := by
  cases hv : okC z p inc with
  | false => exact ⟨0, false, 1, fun a n cap w h => ⟨reach1_bad a n cap z p inc hp hi hv x w h, rreach10_bad a n cap z p inc hp hi hv x w h⟩⟩
  | true =>
    obtain ⟨q, rfl, g⟩ := okC_pos hv
    by_cases hr : ¬ x = 4611686018427387904 ∧ (x < 0 ∨ (1125899906842624 : Int) < x)
    · exact ⟨0, false, 2, fun a n cap w h => ⟨reach1_range a n cap z q inc g x hr w h, rreach10_range a n cap z q inc g x hr w h⟩⟩
    · obtain ⟨V, hV, hx⟩ : ∃ V : Option Int, Asks V ∧ enc V = x := by
        by_cases he : x = 4611686018427387904
        · exact ⟨none, fun v h => (by cases h), he.symm⟩
        · exact ⟨some x, fun v h => (by cases h; omega), rfl⟩
      obtain ⟨o, k, hk⟩ := first_ex (eC z q inc) V
      refine ⟨k, o, 0, fun a n cap w h => ⟨(reach1_ok a n cap z q inc g V hV x hx w h).mono ?_, (rreach10_ok a n cap z q inc g V hV x hx w h).mono ?_⟩⟩ <;>
      · rintro e w' ⟨o', k', rfl, hb, hF, _⟩
        obtain ⟨rfl, rfl⟩ := hF.unique hk
        exact ⟨rfl, hb⟩
end Go.Proofs.Ytjjaaknjdmijbaa
