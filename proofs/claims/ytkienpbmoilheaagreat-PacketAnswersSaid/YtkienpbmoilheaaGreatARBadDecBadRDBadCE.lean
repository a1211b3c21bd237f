/- The document's Pair, and its convolution, at curves that are not valid and at great common periods. By the verifier's side. -/
import Derived.Test.YtkienpbmoilheaaGreatARCo1
import Derived.Test.YtkienpbmoilheaaGreatARefA
import Derived.Test.YtkienpbmoilheaaGreatARRai
import Derived.Test.YtkienpbmoilheaaGreatAPwSPwU
import Derived.Test.YtkienpbmoilheaaGreatADecD
import Derived.Test.YtkienpbmoilheaaGreatARDe1RDe2
namespace Go.Proofs.YtkienpbmoilheaaGreat
open Go.RowKit
set_option linter.unusedSimpArgs false
set_option linter.unusedVariables false

/-- Of the normal form only the error is told. -/
def GivesNC (c : Int) (w : World) (e : Ending) (w' : World) : Prop :=
  ∃ (a : Option Addr) (n cap : Nat) (p inc : Int), e = .returned (.tuple #[curV a n cap p inc, .int .i64 c]) ∧ Below w.heap.size w w'
theorem rnormal_c (a : Option Addr) (n cap : Nat) (zs : List Int) (p inc : Int) (hp : In64 p) (hi : In64 inc) (c : Int) (hc : c = if okC zs p inc = true then 0 else 1) (w : World) (h : RowZ w a n cap zs) :
    Calls Tryz.prog 98 #[curV a n cap p inc] w (GivesNC c w) := by
  cases hok : okC zs p inc with
  | false =>
    rw [hok] at hc
    obtain rfl : c = 1 := hc
    refine (rnormal_bad a n cap zs p inc hp hi hok w h).mono ?_
    rintro e w' ⟨rfl, hb⟩
    exact ⟨_, _, _, _, _, rfl, hb⟩
  | true =>
    rw [hok] at hc
    obtain rfl : c = 0 := hc
    obtain ⟨q, rfl, g⟩ := okC_pos hok
    refine (rnormal_ok a n cap zs q inc g w h).mono ?_
    rintro e w' ⟨a', n', cap', zs', p', inc', rfl, hb, _, _, _⟩
    exact ⟨_, _, _, _, _, rfl, hb⟩

set_option maxRecDepth 100000 in
set_option maxHeartbeats 3200000 in
theorem rpair_bad (a1 : Option Addr) (n1 cap1 : Nat) (z1 : List Int) (p1 i1 : Int) (hp1 : In64 p1) (hi1 : In64 i1) (a2 : Option Addr) (n2 cap2 : Nat) (z2 : List Int) (p2 i2 : Int) (hp2 : In64 p2) (hi2 : In64 i2) (hv : okC z1 p1 i1 = false ∨ okC z2 p2 i2 = false) (w : World) (h1 : RowZ w a1 n1 cap1 z1) (h2 : RowZ w a2 n2 cap2 z2) :
    Calls Tryz.prog 85 #[curV a1 n1 cap1 p1 i1, curV a2 n2 cap2 p2 i2] w (GivesPairBad w) := by
  obtain ⟨W, hW⟩ : ∃ W, (((w.alloc (.cells #[.slice a1 n1 cap1, .int .i64 p1, .int .i64 i1] 24)).alloc (.cells #[.slice a2 n2 cap2, .int .i64 p2, .int .i64 i2] 24)).alloc (.cells #[.slice none 0 0, .int .i64 0, .int .i64 0] 24)).alloc (.cells #[.slice none 0 0, .int .i64 0, .int .i64 0] 24) = W := ⟨_, rfl⟩
  obtain ⟨⟨hB, hWs⟩, kf, kg, ka, kb⟩ := boxes4 w a1 n1 cap1 p1 i1 a2 n2 cap2 p2 i2 hW
  have HB := Lib.hid hB
  have KG := Lib.hid kg
  have KA := Lib.hid ka
  have KB := Lib.hid kb
  have HR := Lib.hid (And.intro (h1.under hB) (h2.under hB))
  have HI := Lib.hid (And.intro (And.intro hp1 hi1) (And.intro hp2 hi2))
  obtain ⟨x1, hx1⟩ : ∃ c : Int, c = if okC z1 p1 i1 = true then 0 else 1 := ⟨_, rfl⟩
  obtain ⟨x2, hx2⟩ : ∃ c : Int, c = if okC z2 p2 i2 = true then 0 else 1 := ⟨_, rfl⟩
  have HX := Lib.hid (And.intro hx1 hx2)
  have HXX := Lib.hid (show (x1 = 1 ∨ x1 = 0) ∧ (x1 = 0 → x2 = 1) by
    rcases hv with h | h
    · rw [h] at hx1; exact ⟨.inl hx1, fun e => by rw [e] at hx1; cases hx1⟩
    · rw [h] at hx2
      refine ⟨?_, fun _ => hx2⟩
      cases h3 : okC z1 p1 i1 with
      | true => rw [h3] at hx1; exact .inr hx1
      | false => rw [h3] at hx1; exact .inl hx1)
  have HS := Lib.hid hWs
  have hW1 := hW
  obtain ⟨s, hs⟩ : ∃ s, w.heap.size = s := ⟨_, rfl⟩
  have HSS := Lib.hid hs
  obtain ⟨m0, m1, m2, m3, m4, m5⟩ := kf
  rw [hs] at m0 m1 m2 m3 m4 m5
  clear h1 h2 hB kg ka kb hW hWs hp1 hi1 hp2 hi2 hv hx1 hx2
  go_enter Tryz.func85, Tryz.ntmps85
  go_wp2_with fail
  try rw [hW1]
  clear hW1 m0 m1 m2 m3 m4 m5
  refine (rnormal_c a1 n1 cap1 z1 p1 i1 HI.out.1.1 HI.out.1.2 x1 HX.out.1 _ HR.out.1).mono ?_
  rintro e v1 ⟨b1, m1, c1, q1, j1, rfl, hb⟩
  obtain ⟨w1, hw⟩ : ∃ W, v1.alloc (.cells #[.slice b1 m1 c1, .int .i64 q1, .int .i64 j1] 24) = W := ⟨_, rfl⟩
  have hz : Below W.heap.size W w1 := by rw [← hw]; exact hb.trans ((below_box _).mono hb.size)
  have KG1 := Lib.hid (KG.out.below hz)
  have KA1 := Lib.hid (KA.out.below hz)
  have KB1 := Lib.hid (KB.out.below hz)
  have HB1 := Lib.hid (HB.out.trans (hz.mono HB.out.size))
  have R2 := Lib.hid (HR.out.2.under hz)
  have X1 := Lib.hid (show Cur3 w1 v1.heap.size (.slice b1 m1 c1) (.int .i64 q1) (.int .i64 j1) by rw [← hw]; exact Cur3.new _ _ _ _ _)
  have S1 := Lib.hid (show w.heap.size + 4 ≤ v1.heap.size by have := hb.size; have := HS.out; omega)
  have hw1 := hw
  obtain ⟨g0, g1, g2, g3, g4, g5⟩ := KG1.out
  clear hb hw hz
  rw [hs] at g0 g1 g2 g3 g4 g5
  go_wp2_with fail
  try rw [hw1]
  clear hw1 g0 g1 g2 g3 g4 g5
  refine (rnormal_c a2 n2 cap2 z2 p2 i2 HI.out.2.1 HI.out.2.2 x2 HX.out.2 _ R2.out).mono ?_
  rintro e v2 ⟨b2, m2, c2, q2, j2, rfl, hb⟩
  obtain ⟨w2, hw⟩ : ∃ W, v2.alloc (.cells #[.slice b2 m2 c2, .int .i64 q2, .int .i64 j2] 24) = W := ⟨_, rfl⟩
  have hz : Below w1.heap.size w1 w2 := by rw [← hw]; exact hb.trans ((below_box _).mono hb.size)
  have KA2 := Lib.hid (KA1.out.below hz)
  have KB2 := Lib.hid (KB1.out.below hz)
  have HB2 := Lib.hid (HB1.out.trans (hz.mono HB1.out.size))
  have X12 := Lib.hid (X1.out.below hz)
  have X2 := Lib.hid (show Cur3 w2 v2.heap.size (.slice b2 m2 c2) (.int .i64 q2) (.int .i64 j2) by rw [← hw]; exact Cur3.new _ _ _ _ _)
  have S2 := Lib.hid (show w.heap.size + 4 ≤ v2.heap.size by have := hb.size; have := X1.out.lt; have := S1.out; omega)
  have hw2 := hw
  obtain ⟨A, hA⟩ : ∃ A, A = s + 2 := ⟨_, rfl⟩
  obtain ⟨B, hBB⟩ : ∃ B, B = A + 1 := ⟨_, rfl⟩
  have HP := Lib.hid (show GivesPairBad w (.returned (.tuple #[curV b1 m1 c1 q1 j1, curV b2 m2 c2 q2 j2, .int .i64 0, .int .i64 1])) (((((((w2.setCell ⟨A, 0, none⟩ (.slice b1 m1 c1)).setCell ⟨A, 1, none⟩ (.int .i64 q1)).setCell ⟨A, 2, none⟩ (.int .i64 j1)).setCell ⟨B, 0, none⟩ (.slice b2 m2 c2)).setCell ⟨B, 1, none⟩ (.int .i64 q2)).setCell ⟨B, 2, none⟩ (.int .i64 j2)).drew) from
    ⟨_, _, _, _, _, _, _, _, _, _, rfl, (below_set3 (below_set3 HB2.out (by omega) _ _ _) (by omega) _ _ _).drew⟩)
  obtain ⟨g0, g1, g2, g3, g4, g5⟩ := X12.out
  obtain ⟨d0, d1, d2, d3, d4, d5⟩ := X2.out
  obtain ⟨k0, k1, k2, k3, k4, k5⟩ := KA2.out
  obtain ⟨r0, r1, r2, r3, r4, r5⟩ := KB2.out
  have l1 : s + 4 ≤ v1.heap.size := by have := S1.out; omega
  have l2 : s + 4 ≤ v2.heap.size := by have := S2.out; omega
  rw [hs, ← hA] at k0 k1 k2 k3 k4 k5
  rw [hs, show s + 3 = B by omega] at r0 r1 r2 r3 r4 r5
  have t1 : ¬ A = B := by omega
  have t1' : ¬ B = A := by omega
  have t2 : ¬ A = v1.heap.size := by omega
  have t3 : ¬ B = v1.heap.size := by omega
  have t4 : ¬ A = v2.heap.size := by omega
  have t5 : ¬ B = v2.heap.size := by omega
  have t2' : ¬ v1.heap.size = A := by omega
  have t3' : ¬ v1.heap.size = B := by omega
  have t4' : ¬ v2.heap.size = A := by omega
  have t5' : ¬ v2.heap.size = B := by omega
  clear hb hw hz
  rcases HXX.out.1 with rfl | rfl
  · go_upto_region 4 with fail
    try rw [hw2]
    rw [← hA, ← hBB]
    clear hA hBB l1 l2
    go_region
    go_wp2_with fail
    exact bodyPost_ret (v := .tuple #[curV b1 m1 c1 q1 j1, curV b2 m2 c2 q2 j2, .int .i64 0, .int .i64 1]) (by simp [results, Tryz.results85, go_sem, k0, k1, k2, k3, k4, k5, r0, r1, r2, r3, r4, r5, t1, t1']) rfl HP.out
  · obtain rfl := HXX.out.2 rfl
    go_upto_region 4 with fail
    try rw [hw2]
    rw [← hA, ← hBB]
    clear hA hBB l1 l2
    go_region
    go_wp2_with fail
    exact bodyPost_ret (v := .tuple #[curV b1 m1 c1 q1 j1, curV b2 m2 c2 q2 j2, .int .i64 0, .int .i64 1]) (by simp [results, Tryz.results85, go_sem, k0, k1, k2, k3, k4, k5, r0, r1, r2, r3, r4, r5, t1, t1']) rfl HP.out

end Go.Proofs.YtkienpbmoilheaaGreat

namespace Go.Proofs.YtkienpbmoilheaaGreat
open Go.RowKit
set_option linter.unusedSimpArgs false
set_option linter.unusedVariables false

def GivesPBad8 (c : Int) (w : World) (e : Ending) (w' : World) : Prop := e = .returned (.tuple #[(.agg #[.slice none 0 0, .int .i64 0, .int .i64 0, .slice none 0 0, .int .i64 0, .int .i64 0, .slice none 0 0, .slice none 0 0, .int .i64 0, .int .i64 0]), .int .i64 c]) ∧ Below w.heap.size w w'
def GivesGBad (c : Int) (w : World) (e : Ending) (w' : World) : Prop := e = .returned (.tuple #[(.agg #[.slice none 0 0, .int .i64 0, .int .i64 0, .slice none 0 0]), .int .i64 c]) ∧ Below w.heap.size w w'

set_option maxRecDepth 100000 in
set_option maxHeartbeats 6400000 in
theorem dpaired_lim (a1 : Option Addr) (n1 cap1 : Nat) (z1 : List Int) (p1 : Nat) (i1 : Int) (g1 : Good z1 p1 i1) (a2 : Option Addr) (n2 cap2 : Nat) (z2 : List Int) (p2 : Nat) (i2 : Int) (g2 : Good z2 p2 i2)
    {y1 y2 : List Int} {q1 q2 : Nat} {j1 j2 : Int} (hn1 : NormC z1 p1 i1 y1 q1 j1) (hn2 : NormC z2 p2 i2 y2 q2 j2) (L : Nat) (hL : q1 / Nat.gcd q1 q2 * q2 = L) (h00 : atC z2 p2 i2 0 = 0) (hL2 : 120 < L) (w : World) (h1 : RowZ w a1 n1 cap1 z1) (h2 : RowZ w a2 n2 cap2 z2) :
    Calls Tryz.prog 80 #[curV a1 n1 cap1 p1 i1, curV a2 n2 cap2 p2 i2] w (GivesPBad8 3 w) := by
  obtain ⟨W, hW⟩ : ∃ W, ((w.alloc (.cells #[.slice a1 n1 cap1, .int .i64 p1, .int .i64 i1] 24)).alloc (.cells #[.slice a2 n2 cap2, .int .i64 p2, .int .i64 i2] 24)).alloc (.cells #[.slice none 0 0, .int .i64 0, .int .i64 0, .slice none 0 0, .int .i64 0, .int .i64 0, .slice none 0 0, .slice none 0 0, .int .i64 0, .int .i64 0] 99) = W := ⟨_, rfl⟩
  obtain ⟨t0, hsz⟩ := sf_start (p1 := p1) (i1 := i1) (p2 := p2) (i2 := i2) h1 h2 hW
  have T0 := Lib.hid t0
  have HSZ := Lib.hid hsz
  have HW := Lib.hid hW
  have V1 := Lib.hid ((okC_iff z1 p1 i1).2 g1)
  have V2 := Lib.hid ((okC_iff z2 p2 i2).2 g2)
  have G1 := Lib.hid g1
  have G2 := Lib.hid g2
  have HN := Lib.hid (And.intro hn1 hn2)
  have HL := Lib.hid hL
  have hL1 : 1 ≤ L := (lcm_of (hn1.eform g1).1.p1 (hn2.eform g2).1.p1 hL).one
  have e1 : In64 (p1 : Int) := ⟨by omega, by have := g1.p2; omega⟩
  have e2 : In64 (p2 : Int) := ⟨by omega, by have := g2.p2; omega⟩
  have e3 : In64 i1 := ⟨by have := g1.i0; omega, by have := g1.i1; omega⟩
  have e4 : In64 i2 := ⟨by have := g2.i0; omega, by have := g2.i1; omega⟩
  have HI := Lib.hid (And.intro (And.intro e1 e3) (And.intro e2 e4))
  have z20 : z2.getD 0 0 = 0 := by
    have h := h00
    have := g2.p1; have := g2.p3
    rwa [atC_lt (by omega)] at h
  have hn21 : 1 ≤ n2 := by have := g2.p1; have := g2.p3; have := h2.len; omega
  have hn2i : (0 : Int) < (n2 : Int) := by omega
  clear t0 hsz hW g1 g2 hn1 hn2 hL h00 h1 h2 e1 e2 e3 e4
  go_enter Tryz.func80, Tryz.ntmps80
  go_wp2_with fail
  try rw [HW.out]
  refine (valid_any a1 n1 cap1 z1 p1 i1 HI.out.1.1 HI.out.1.2 true V1.out _ T0.out.r1).mono ?_
  rintro e w1 ⟨rfl, hb⟩
  have T1 := Lib.hid (T0.out.call hb)
  have HS1 := Lib.hid (Nat.le_trans (Nat.le_of_eq HSZ.out.symm) hb.size)
  clear hb
  obtain ⟨c0, c1, c2, f0, f1, f2⟩ := T1.out.c2
  go_wp2_with fail
  refine (valid_any a2 n2 cap2 z2 p2 i2 HI.out.2.1 HI.out.2.2 true V2.out _ T1.out.r2).mono ?_
  rintro e w2 ⟨rfl, hb⟩
  have T2 := Lib.hid (T1.out.call hb)
  have HS2 := Lib.hid (Nat.le_trans HS1.out hb.size)
  clear hb c0 c1 c2 f0 f1 f2
  obtain ⟨c0, c1, c2, f0, f1, f2⟩ := T2.out.c2
  obtain ⟨x, hax, hcx⟩ := T2.out.r2.cell 0 hn21
  rw [z20] at hcx
  have hcy := hcx
  rw [show x.add 0 = x by cases x; rfl] at hcy
  obtain ⟨W5, hW5⟩ : ∃ W', w2.alloc (.cells #[.slice none 0 0, .int .i64 0, .int .i64 0, .slice none 0 0, .int .i64 0, .int .i64 0, .slice none 0 0, .slice none 0 0, .int .i64 0, .int .i64 0] 99) = W' := ⟨_, rfl⟩
  have hb5 : Below w2.heap.size w2 W5 := by rw [← hW5]; exact (Below.refl _ _).alloc (Nat.le_refl _) _
  have T5 := Lib.hid (T2.out.call hb5)
  have PB := Lib.hid (show Pd W5 w2.heap.size (.slice none 0 0) (.int .i64 0) (.int .i64 0) (.slice none 0 0) (.int .i64 0) (.int .i64 0) (.slice none 0 0) (.slice none 0 0) (.int .i64 0) (.int .i64 0) by rw [← hW5]; exact pd_new w2 (.slice none 0 0) (.int .i64 0) (.int .i64 0) (.slice none 0 0) (.int .i64 0) (.int .i64 0) (.slice none 0 0) (.slice none 0 0) (.int .i64 0) (.int .i64 0) _)
  have HW5 := Lib.hid hW5
  have HS5 := Lib.hid (show w.heap.size + 2 < w2.heap.size by have := HS2.out; omega)
  clear hb5 hW5
  subst hax
  go_upto_region 6 with fail
  try rw [HW5.out]
  clear c0 c1 c2 f0 f1 f2 hcx hcy
  obtain ⟨c0, c1, c2, f0, f1, f2⟩ := T5.out.c1
  go_wp2_with fail
  refine (normal_ok a1 n1 cap1 z1 p1 i1 G1.out _ T5.out.r1).mono ?_
  rintro e w3 ⟨a3, n3, cap3, x1, r1, k1, rfl, hb, hr, hn, hx⟩
  obtain ⟨rfl, rfl, rfl⟩ := hn.canon G1.out G1.out HN.out.1 (fun _ => rfl)
  obtain ⟨W6, hW6⟩ : ∃ W', (((w3.setCell ⟨w2.heap.size, 0, none⟩ (.slice a3 n3 cap3)).setCell ⟨w2.heap.size, 1, none⟩ (.int .i64 r1)).setCell ⟨w2.heap.size, 2, none⟩ (.int .i64 k1)) = W' := ⟨_, rfl⟩
  have T6 := Lib.hid (show SF w a1 n1 cap1 p1 i1 z1 (some x) n2 cap2 p2 i2 z2 W6 by rw [← hW6]; have h9 := HS5.out; exact (((T5.out.call hb).other h9 _ _).other h9 _ _).other h9 _ _)
  have PB6 := Lib.hid (show Pd W6 w2.heap.size (.slice a3 n3 cap3) (.int .i64 r1) (.int .i64 k1) (.slice none 0 0) (.int .i64 0) (.int .i64 0) (.slice none 0 0) (.slice none 0 0) (.int .i64 0) (.int .i64 0) by rw [← hW6]; exact (PB.out.below hb).set012 _ _ _)
  have hlt3 : w2.heap.size < w3.heap.size := Nat.lt_of_lt_of_le PB.out.lt hb.size
  have X3 := Lib.hid (show ∀ x, a3 = some x → w2.heap.size < x.block from fun x h => by have := hx x h; have := PB.out.lt; omega)
  have RX3 := Lib.hid (show RowZ W6 a3 n3 cap3 x1 by
    rw [← hW6]
    have q : ∀ x, a3 = some x → 1 ≤ n3 → x.block ≠ w2.heap.size := fun x h _ => by have := X3.out x h; omega
    exact ((hr.store q _ _).store q _ _).store q _ _)
  have HW6 := Lib.hid hW6
  obtain ⟨⟨c0, c1, c2, f0, f1, f2⟩, c3, c4, c5, c6, c7, c8, c9, f3, f4, f5, f6, f7, f8, f9⟩ := PB.out.below hb
  clear hb hr hn hx hW6 hlt3
  go_upto_region 7 with fail
  try rw [HW6.out]
  clear c0 c1 c2 f0 f1 f2 c3 c4 c5 c6 c7 c8 c9 f3 f4 f5 f6 f7 f8 f9
  obtain ⟨c0, c1, c2, f0, f1, f2⟩ := T6.out.c2
  go_wp2_with fail
  refine (normal_ok (some x) n2 cap2 z2 p2 i2 G2.out _ T6.out.r2).mono ?_
  rintro e w4 ⟨a4, n4, cap4, x2, r2, k2, rfl, hb, hr, hn, hx⟩
  obtain ⟨rfl, rfl, rfl⟩ := hn.canon G2.out G2.out HN.out.2 (fun _ => rfl)
  obtain ⟨W7, hW7⟩ : ∃ W', (((w4.setCell ⟨w2.heap.size, 3, none⟩ (.slice a4 n4 cap4)).setCell ⟨w2.heap.size, 4, none⟩ (.int .i64 r2)).setCell ⟨w2.heap.size, 5, none⟩ (.int .i64 k2)) = W' := ⟨_, rfl⟩
  obtain ⟨P0, hP0⟩ : ∃ P : PV, P = ⟨a3, n3, cap3, r1, k1, a4, n4, cap4, r2, k2, 0, 0, L, 0⟩ := ⟨_, rfl⟩
  have N7 := Lib.hid (show SN w w2.heap.size P0 x1 x2 (.slice none 0 0) (.slice none 0 0) (.int .i64 0) (.int .i64 0) W7 by
    have h9 := HS5.out
    have hle : w2.heap.size < W6.heap.size := PB6.out.lt
    have X4 : ∀ x, a4 = some x → w2.heap.size < x.block := fun x h => by have := hx x h; omega
    have q3 : ∀ x, a3 = some x → 1 ≤ n3 → x.block ≠ w2.heap.size := fun x h _ => by have := X3.out x h; omega
    have q4 : ∀ x, a4 = some x → 1 ≤ n4 → x.block ≠ w2.heap.size := fun x h _ => by have := X4 x h; omega
    rw [← hW7, hP0]
    exact ⟨((((T6.out.call hb).res.other (by omega) _ _).other (by omega) _ _).other (by omega) _ _), (PB6.out.below hb).set345 _ _ _, ((((RX3.out.under hb).store q3 _ _).store q3 _ _).store q3 _ _), (((hr.store q4 _ _).store q4 _ _).store q4 _ _), X3.out, X4, h9, below_b3 (T6.out.call hb).below (by omega) _ _ _⟩)
  have HW7 := Lib.hid hW7
  clear c0 c1 c2 f0 f1 f2
  obtain ⟨⟨c0, c1, c2, f0, f1, f2⟩, c3, c4, c5, c6, c7, c8, c9, f3, f4, f5, f6, f7, f8, f9⟩ := PB6.out.below hb
  clear hb hr hn hx hW7
  have GX := Lib.hid (And.intro (HN.out.1.good G1.out) (HN.out.2.good G2.out))
  have NX := Lib.hid (And.intro (norm_again HN.out.1 G1.out) (norm_again HN.out.2 G2.out))
  have bp1 := GX.out.1.p1
  have bp2 := GX.out.1.p2
  have bp3 := GX.out.2.p1
  have bp4 := GX.out.2.p2
  go_upto_region 8 with fail
  try rw [HW7.out]
  clear c0 c1 c2 f0 f1 f2 c3 c4 c5 c6 c7 c8 c9 f3 f4 f5 f6 f7 f8 f9
  subst hP0
  obtain ⟨⟨c0, c1, c2, f0, f1, f2⟩, c3, c4, c5, c6, c7, c8, c9, f3, f4, f5, f6, f7, f8, f9⟩ := N7.out.pr
  go_wp2_with fail
  refine (common_any r1 r2 L HL.out bp1 (by omega) bp3 (by omega) _).mono ?_
  rintro e w5 ⟨rfl, hd⟩
  have N8 := Lib.hid ((N7.out.call (below_dr (Below.refl _ _) hd)).put8 (.int .i64 L))
  clear c0 c1 c2 f0 f1 f2 c3 c4 c5 c6 c7 c8 c9 f3 f4 f5 f6 f7 f8 f9
  obtain ⟨⟨c0, c1, c2, f0, f1, f2⟩, c3, c4, c5, c6, c7, c8, c9, f3, f4, f5, f6, f7, f8, f9⟩ := N7.out.pr.below (below_dr (Below.refl _ _) hd)
  obtain ⟨⟨x0, x1', x2', g0, g1, g2⟩, x3, x4, x5, x6, x7, x8, x9, g3, g4, g5, g6, g7, g8, g9⟩ := N7.out.res.below (below_dr (Below.refl _ _) hd)
  clear hd
  have hLi : (120 : Int) < (L : Int) := by omega
  have BZ := Lib.hid N8.out.below
  have HP := Lib.hid (show GivesPBad8 3 w (.returned (.tuple #[(.agg #[.slice none 0 0, .int .i64 0, .int .i64 0, .slice none 0 0, .int .i64 0, .int .i64 0, .slice none 0 0, .slice none 0 0, .int .i64 0, .int .i64 0]), .int .i64 3])) (((((((((((w5.setCell ⟨w2.heap.size, 8, none⟩ (.int .i64 L)).setCell ⟨w.heap.size + 2, 0, none⟩ (.slice none 0 0)).setCell ⟨w.heap.size + 2, 1, none⟩ (.int .i64 0)).setCell ⟨w.heap.size + 2, 2, none⟩ (.int .i64 0)).setCell ⟨w.heap.size + 2, 3, none⟩ (.slice none 0 0)).setCell ⟨w.heap.size + 2, 4, none⟩ (.int .i64 0)).setCell ⟨w.heap.size + 2, 5, none⟩ (.int .i64 0)).setCell ⟨w.heap.size + 2, 6, none⟩ (.slice none 0 0)).setCell ⟨w.heap.size + 2, 7, none⟩ (.slice none 0 0)).setCell ⟨w.heap.size + 2, 8, none⟩ (.int .i64 0)).setCell ⟨w.heap.size + 2, 9, none⟩ (.int .i64 0)) from ⟨rfl, below_set10 BZ.out (by omega) _ _ _ _ _ _ _ _ _ _⟩)
  have n1 : ¬ w.heap.size + 2 = w2.heap.size := by have := HS5.out; omega
  have n2 : ¬ w2.heap.size = w.heap.size + 2 := by have := HS5.out; omega
  go_wp2_with fail
  exact bodyPost_ret (v := .tuple #[(.agg #[.slice none 0 0, .int .i64 0, .int .i64 0, .slice none 0 0, .int .i64 0, .int .i64 0, .slice none 0 0, .slice none 0 0, .int .i64 0, .int .i64 0]), .int .i64 3]) (by simp [results, Tryz.results80, go_sem, x0, x1', x2', x3, x4, x5, x6, x7, x8, x9]) rfl HP.out

set_option maxRecDepth 100000 in
set_option maxHeartbeats 3200000 in
theorem dpaired_bad (a1 : Option Addr) (n1 cap1 : Nat) (z1 : List Int) (p1 i1 : Int) (hp1 : In64 p1) (hi1 : In64 i1) (a2 : Option Addr) (n2 cap2 : Nat) (z2 : List Int) (p2 i2 : Int) (hp2 : In64 p2) (hi2 : In64 i2) (hv : okC z1 p1 i1 = false ∨ okC z2 p2 i2 = false) (w : World) (h1 : RowZ w a1 n1 cap1 z1) (h2 : RowZ w a2 n2 cap2 z2) :
    Calls Tryz.prog 80 #[curV a1 n1 cap1 p1 i1, curV a2 n2 cap2 p2 i2] w (GivesPBad8 1 w) := by
  obtain ⟨W, hW⟩ : ∃ W, ((w.alloc (.cells #[.slice a1 n1 cap1, .int .i64 p1, .int .i64 i1] 24)).alloc (.cells #[.slice a2 n2 cap2, .int .i64 p2, .int .i64 i2] 24)).alloc (.cells #[.slice none 0 0, .int .i64 0, .int .i64 0, .slice none 0 0, .int .i64 0, .int .i64 0, .slice none 0 0, .slice none 0 0, .int .i64 0, .int .i64 0] 99) = W := ⟨_, rfl⟩
  have hB : Below w.heap.size w W := by rw [← hW]; exact (((Below.refl _ _).alloc (Nat.le_refl _) _).alloc (by simp) _).alloc (by simp; omega) _
  have K2 := Lib.hid (show Cur3 W (w.heap.size + 1) (.slice a2 n2 cap2) (.int .i64 p2) (.int .i64 i2) by rw [← hW]; exact (Cur3.new2 w _ _ _ _ _).alloc _)
  have KR := Lib.hid (show Pd W (w.heap.size + 2) (.slice none 0 0) (.int .i64 0) (.int .i64 0) (.slice none 0 0) (.int .i64 0) (.int .i64 0) (.slice none 0 0) (.slice none 0 0) (.int .i64 0) (.int .i64 0) by
    rw [← hW]
    have := pd_new ((w.alloc (.cells #[.slice a1 n1 cap1, .int .i64 p1, .int .i64 i1] 24)).alloc (.cells #[.slice a2 n2 cap2, .int .i64 p2, .int .i64 i2] 24)) (.slice none 0 0) (.int .i64 0) (.int .i64 0) (.slice none 0 0) (.int .i64 0) (.int .i64 0) (.slice none 0 0) (.slice none 0 0) (.int .i64 0) (.int .i64 0) 99
    simpa using this)
  have HR := Lib.hid (And.intro (h1.under hB) (h2.under hB))
  have HB := Lib.hid hB
  have HI := Lib.hid (And.intro (And.intro hp1 hi1) (And.intro hp2 hi2))
  have HW := Lib.hid hW
  have HV := Lib.hid hv
  clear hB hW h1 h2 hp1 hi1 hp2 hi2 hv
  go_enter Tryz.func80, Tryz.ntmps80
  go_wp2_with fail
  try rw [HW.out]
  cases hv1 : okC z1 p1 i1 with
  | false =>
    have HV1 := Lib.hid hv1
    clear hv1
    refine (valid_any a1 n1 cap1 z1 p1 i1 HI.out.1.1 HI.out.1.2 false HV1.out _ HR.out.1).mono ?_
    rintro e w1 ⟨rfl, hb⟩
    have BZ := Lib.hid (HB.out.trans (hb.mono HB.out.size))
    have HP := Lib.hid (show GivesPBad8 1 w (.returned (.tuple #[(.agg #[.slice none 0 0, .int .i64 0, .int .i64 0, .slice none 0 0, .int .i64 0, .int .i64 0, .slice none 0 0, .slice none 0 0, .int .i64 0, .int .i64 0]), .int .i64 1])) (((((((((((w1).setCell ⟨w.heap.size + 2, 0, none⟩ (.slice none 0 0)).setCell ⟨w.heap.size + 2, 1, none⟩ (.int .i64 0)).setCell ⟨w.heap.size + 2, 2, none⟩ (.int .i64 0)).setCell ⟨w.heap.size + 2, 3, none⟩ (.slice none 0 0)).setCell ⟨w.heap.size + 2, 4, none⟩ (.int .i64 0)).setCell ⟨w.heap.size + 2, 5, none⟩ (.int .i64 0)).setCell ⟨w.heap.size + 2, 6, none⟩ (.slice none 0 0)).setCell ⟨w.heap.size + 2, 7, none⟩ (.slice none 0 0)).setCell ⟨w.heap.size + 2, 8, none⟩ (.int .i64 0)).setCell ⟨w.heap.size + 2, 9, none⟩ (.int .i64 0)) from ⟨rfl, below_set10 BZ.out (by omega) _ _ _ _ _ _ _ _ _ _⟩)
    obtain ⟨⟨x0, x1', x2', g0, g1, g2⟩, x3, x4, x5, x6, x7, x8, x9, g3, g4, g5, g6, g7, g8, g9⟩ := KR.out.below hb
    clear hb
    go_wp2_with fail
    exact bodyPost_ret (v := .tuple #[(.agg #[.slice none 0 0, .int .i64 0, .int .i64 0, .slice none 0 0, .int .i64 0, .int .i64 0, .slice none 0 0, .slice none 0 0, .int .i64 0, .int .i64 0]), .int .i64 1]) (by simp [results, Tryz.results80, go_sem, x0, x1', x2', x3, x4, x5, x6, x7, x8, x9]) rfl HP.out
  | true =>
    have HV1 := Lib.hid hv1
    have HV2 := Lib.hid (show okC z2 p2 i2 = false from HV.out.resolve_left (by rw [hv1]; decide))
    clear hv1
    refine (valid_any a1 n1 cap1 z1 p1 i1 HI.out.1.1 HI.out.1.2 true HV1.out _ HR.out.1).mono ?_
    rintro e w1 ⟨rfl, hb⟩
    have KR1 := Lib.hid (KR.out.below hb)
    have B1 := Lib.hid (HB.out.trans (hb.mono HB.out.size))
    have R1 := Lib.hid (HR.out.2.under hb)
    obtain ⟨c0, c1, c2, f0, f1, f2⟩ := K2.out.below hb
    clear hb
    go_wp2_with fail
    clear c0 c1 c2 f0 f1 f2
    refine (valid_any a2 n2 cap2 z2 p2 i2 HI.out.2.1 HI.out.2.2 false HV2.out _ R1.out).mono ?_
    rintro e w2 ⟨rfl, hb⟩
    have BZ := Lib.hid (B1.out.trans (hb.mono B1.out.size))
    have HP := Lib.hid (show GivesPBad8 1 w (.returned (.tuple #[(.agg #[.slice none 0 0, .int .i64 0, .int .i64 0, .slice none 0 0, .int .i64 0, .int .i64 0, .slice none 0 0, .slice none 0 0, .int .i64 0, .int .i64 0]), .int .i64 1])) (((((((((((w2).setCell ⟨w.heap.size + 2, 0, none⟩ (.slice none 0 0)).setCell ⟨w.heap.size + 2, 1, none⟩ (.int .i64 0)).setCell ⟨w.heap.size + 2, 2, none⟩ (.int .i64 0)).setCell ⟨w.heap.size + 2, 3, none⟩ (.slice none 0 0)).setCell ⟨w.heap.size + 2, 4, none⟩ (.int .i64 0)).setCell ⟨w.heap.size + 2, 5, none⟩ (.int .i64 0)).setCell ⟨w.heap.size + 2, 6, none⟩ (.slice none 0 0)).setCell ⟨w.heap.size + 2, 7, none⟩ (.slice none 0 0)).setCell ⟨w.heap.size + 2, 8, none⟩ (.int .i64 0)).setCell ⟨w.heap.size + 2, 9, none⟩ (.int .i64 0)) from ⟨rfl, below_set10 BZ.out (by omega) _ _ _ _ _ _ _ _ _ _⟩)
    obtain ⟨⟨x0, x1', x2', g0, g1, g2⟩, x3, x4, x5, x6, x7, x8, x9, g3, g4, g5, g6, g7, g8, g9⟩ := KR1.out.below hb
    clear hb
    go_wp2_with fail
    exact bodyPost_ret (v := .tuple #[(.agg #[.slice none 0 0, .int .i64 0, .int .i64 0, .slice none 0 0, .int .i64 0, .int .i64 0, .slice none 0 0, .slice none 0 0, .int .i64 0, .int .i64 0]), .int .i64 1]) (by simp [results, Tryz.results80, go_sem, x0, x1', x2', x3, x4, x5, x6, x7, x8, x9]) rfl HP.out

set_option maxRecDepth 100000 in
set_option maxHeartbeats 3200000 in
theorem dpaired_state (a1 : Option Addr) (n1 cap1 : Nat) (z1 : List Int) (p1 i1 : Int) (hp1 : In64 p1) (hi1 : In64 i1) (a2 : Option Addr) (n2 cap2 : Nat) (z2 : List Int) (p2 i2 : Int) (hp2 : In64 p2) (hi2 : In64 i2) (hv1 : okC z1 p1 i1 = true) (hv2 : okC z2 p2 i2 = true) (h0 : ¬ z2.getD 0 0 = 0) (w : World) (h1 : RowZ w a1 n1 cap1 z1) (h2 : RowZ w a2 n2 cap2 z2) :
    Calls Tryz.prog 80 #[curV a1 n1 cap1 p1 i1, curV a2 n2 cap2 p2 i2] w (GivesPBad8 6 w) := by
  have hn2i : 0 < n2 := by
    obtain ⟨q, rfl, g⟩ := okC_pos hv2
    have := g.p1; have := g.p3; have := h2.len; omega
  obtain ⟨W, hW⟩ : ∃ W, ((w.alloc (.cells #[.slice a1 n1 cap1, .int .i64 p1, .int .i64 i1] 24)).alloc (.cells #[.slice a2 n2 cap2, .int .i64 p2, .int .i64 i2] 24)).alloc (.cells #[.slice none 0 0, .int .i64 0, .int .i64 0, .slice none 0 0, .int .i64 0, .int .i64 0, .slice none 0 0, .slice none 0 0, .int .i64 0, .int .i64 0] 99) = W := ⟨_, rfl⟩
  have hB : Below w.heap.size w W := by rw [← hW]; exact (((Below.refl _ _).alloc (Nat.le_refl _) _).alloc (by simp) _).alloc (by simp; omega) _
  have K2 := Lib.hid (show Cur3 W (w.heap.size + 1) (.slice a2 n2 cap2) (.int .i64 p2) (.int .i64 i2) by rw [← hW]; exact (Cur3.new2 w _ _ _ _ _).alloc _)
  have KR := Lib.hid (show Pd W (w.heap.size + 2) (.slice none 0 0) (.int .i64 0) (.int .i64 0) (.slice none 0 0) (.int .i64 0) (.int .i64 0) (.slice none 0 0) (.slice none 0 0) (.int .i64 0) (.int .i64 0) by
    rw [← hW]
    have := pd_new ((w.alloc (.cells #[.slice a1 n1 cap1, .int .i64 p1, .int .i64 i1] 24)).alloc (.cells #[.slice a2 n2 cap2, .int .i64 p2, .int .i64 i2] 24)) (.slice none 0 0) (.int .i64 0) (.int .i64 0) (.slice none 0 0) (.int .i64 0) (.int .i64 0) (.slice none 0 0) (.slice none 0 0) (.int .i64 0) (.int .i64 0) 99
    simpa using this)
  have HR := Lib.hid (And.intro (h1.under hB) (h2.under hB))
  have HB := Lib.hid hB
  have HI := Lib.hid (And.intro (And.intro hp1 hi1) (And.intro hp2 hi2))
  have HW := Lib.hid hW
  have HV1 := Lib.hid hv1
  have HV2 := Lib.hid hv2
  obtain ⟨x, hax, _⟩ := h2.cell 0 hn2i
  subst hax
  obtain ⟨m, hm⟩ : ∃ m, z2.getD 0 0 = m := ⟨_, rfl⟩
  rw [hm] at h0
  have HM := Lib.hid hm
  have hn2j : (0 : Int) < (n2 : Int) := by omega
  clear hB hW h1 h2 hp1 hi1 hp2 hi2 hv1 hv2 hm
  go_enter Tryz.func80, Tryz.ntmps80
  go_wp2_with fail
  try rw [HW.out]
  refine (valid_any a1 n1 cap1 z1 p1 i1 HI.out.1.1 HI.out.1.2 true HV1.out _ HR.out.1).mono ?_
  rintro e w1 ⟨rfl, hb⟩
  have KR1 := Lib.hid (KR.out.below hb)
  have B1 := Lib.hid (HB.out.trans (hb.mono HB.out.size))
  have R1 := Lib.hid (HR.out.2.under hb)
  have KG1 := Lib.hid (K2.out.below hb)
  obtain ⟨c0, c1, c2, f0, f1, f2⟩ := K2.out.below hb
  clear hb
  go_wp2_with fail
  clear c0 c1 c2 f0 f1 f2
  refine (valid_any (some x) n2 cap2 z2 p2 i2 HI.out.2.1 HI.out.2.2 true HV2.out _ R1.out).mono ?_
  rintro e w2 ⟨rfl, hb⟩
  have BZ := Lib.hid (B1.out.trans (hb.mono B1.out.size))
  have HP := Lib.hid (show GivesPBad8 6 w (.returned (.tuple #[(.agg #[.slice none 0 0, .int .i64 0, .int .i64 0, .slice none 0 0, .int .i64 0, .int .i64 0, .slice none 0 0, .slice none 0 0, .int .i64 0, .int .i64 0]), .int .i64 6])) (((((((((((w2).setCell ⟨w.heap.size + 2, 0, none⟩ (.slice none 0 0)).setCell ⟨w.heap.size + 2, 1, none⟩ (.int .i64 0)).setCell ⟨w.heap.size + 2, 2, none⟩ (.int .i64 0)).setCell ⟨w.heap.size + 2, 3, none⟩ (.slice none 0 0)).setCell ⟨w.heap.size + 2, 4, none⟩ (.int .i64 0)).setCell ⟨w.heap.size + 2, 5, none⟩ (.int .i64 0)).setCell ⟨w.heap.size + 2, 6, none⟩ (.slice none 0 0)).setCell ⟨w.heap.size + 2, 7, none⟩ (.slice none 0 0)).setCell ⟨w.heap.size + 2, 8, none⟩ (.int .i64 0)).setCell ⟨w.heap.size + 2, 9, none⟩ (.int .i64 0)) from ⟨rfl, below_set10 BZ.out (by omega) _ _ _ _ _ _ _ _ _ _⟩)
  obtain ⟨⟨x0, x1', x2', g0, g1, g2⟩, x3, x4, x5, x6, x7, x8, x9, g3, g4, g5, g6, g7, g8, g9⟩ := KR1.out.below hb
  obtain ⟨c0, c1, c2, f0, f1, f2⟩ := KG1.out.below hb
  obtain ⟨y, hay, hcx⟩ := (R1.out.under hb).cell 0 hn2i
  cases hay
  rw [HM.out] at hcx
  have hcy := hcx
  rw [show x.add 0 = x by cases x; rfl] at hcy
  clear hb
  go_wp2_with fail
  exact bodyPost_ret (v := .tuple #[(.agg #[.slice none 0 0, .int .i64 0, .int .i64 0, .slice none 0 0, .int .i64 0, .int .i64 0, .slice none 0 0, .slice none 0 0, .int .i64 0, .int .i64 0]), .int .i64 6]) (by simp [results, Tryz.results80, go_sem, x0, x1', x2', x3, x4, x5, x6, x7, x8, x9]) rfl HP.out

set_option maxRecDepth 100000 in
set_option maxHeartbeats 3200000 in
/-- Prove hands the pair's error on. -/
theorem dprove_err (a1 : Option Addr) (n1 cap1 : Nat) (z1 : List Int) (p1 i1 : Int) (a2 : Option Addr) (n2 cap2 : Nat) (z2 : List Int) (p2 i2 : Int) (c : Int) (hc : c = 1 ∨ c = 3 ∨ c = 6)
    (hp : ∀ u, RowZ u a1 n1 cap1 z1 → RowZ u a2 n2 cap2 z2 → Calls Tryz.prog 80 #[curV a1 n1 cap1 p1 i1, curV a2 n2 cap2 p2 i2] u (GivesPBad8 c u)) (w : World) (h1 : RowZ w a1 n1 cap1 z1) (h2 : RowZ w a2 n2 cap2 z2) :
    Calls Tryz.prog 63 #[curV a1 n1 cap1 p1 i1, curV a2 n2 cap2 p2 i2] w (GivesGBad c w) := by
  obtain ⟨W, hW⟩ : ∃ W, ((w.alloc (.cells #[.slice a1 n1 cap1, .int .i64 p1, .int .i64 i1] 24)).alloc (.cells #[.slice a2 n2 cap2, .int .i64 p2, .int .i64 i2] 24)).alloc (.cells #[.slice none 0 0, .int .i64 0, .int .i64 0, .slice none 0 0] 82) = W := ⟨_, rfl⟩
  have hB : Below w.heap.size w W := by rw [← hW]; exact (((Below.refl _ _).alloc (Nat.le_refl _) _).alloc (by simp) _).alloc (by simp; omega) _
  have m1 : Cur3 W w.heap.size (.slice a1 n1 cap1) (.int .i64 p1) (.int .i64 i1) := by rw [← hW]; exact ((Cur3.new w _ _ _ _).alloc _).alloc _
  have m2 : Cur3 W (w.heap.size + 1) (.slice a2 n2 cap2) (.int .i64 p2) (.int .i64 i2) := by rw [← hW]; exact (Cur3.new2 w _ _ _ _ _).alloc _
  have mr : G4 W (w.heap.size + 2) (.slice none 0 0) (.int .i64 0) (.int .i64 0) (.slice none 0 0) := by
    rw [← hW]
    have := g4_new ((w.alloc (.cells #[.slice a1 n1 cap1, .int .i64 p1, .int .i64 i1] 24)).alloc (.cells #[.slice a2 n2 cap2, .int .i64 p2, .int .i64 i2] 24)) (.slice none 0 0) (.int .i64 0) (.int .i64 0) (.slice none 0 0) 82
    simpa using this
  have HB := Lib.hid hB
  have KR := Lib.hid mr
  have HR := Lib.hid (And.intro (h1.under hB) (h2.under hB))
  have HW := Lib.hid hW
  have HC := Lib.hid hp
  obtain ⟨c0, c1, c2, f0, f1, f2⟩ := m1
  obtain ⟨d0, d1, d2, e0, e1, e2⟩ := m2
  clear h1 h2 hB mr hW hp
  go_enter Tryz.func63, Tryz.ntmps63
  go_wp2_with fail
  try rw [HW.out]
  clear c0 c1 c2 f0 f1 f2 d0 d1 d2 e0 e1 e2
  refine (HC.out _ HR.out.1 HR.out.2).mono ?_
  rintro e v1 ⟨rfl, hb⟩
  obtain ⟨W2, hw⟩ : ∃ W2, v1.alloc (.cells #[.slice none 0 0, .int .i64 0, .int .i64 0, .slice none 0 0, .int .i64 0, .int .i64 0, .slice none 0 0, .slice none 0 0, .int .i64 0, .int .i64 0] 99) = W2 := ⟨_, rfl⟩
  have hz : Below W.heap.size W W2 := by rw [← hw]; exact hb.trans ((below_box _).mono hb.size)
  have HP := Lib.hid (show GivesGBad c w (.returned (.tuple #[(.agg #[.slice none 0 0, .int .i64 0, .int .i64 0, .slice none 0 0]), .int .i64 c])) (((((W2).setCell ⟨w.heap.size + 2, 0, none⟩ (.slice none 0 0)).setCell ⟨w.heap.size + 2, 1, none⟩ (.int .i64 0)).setCell ⟨w.heap.size + 2, 2, none⟩ (.int .i64 0)).setCell ⟨w.heap.size + 2, 3, none⟩ (.slice none 0 0)) from ⟨rfl, below_set4 (HB.out.trans (hz.mono HB.out.size)) (by omega) _ _ _ _⟩)
  have KR2 := Lib.hid (KR.out.below hz)
  have HW2 := Lib.hid hw
  clear hb hz hw
  rcases hc with rfl | rfl | rfl
  · go_upto_region 2 with fail
    try rw [HW2.out]
    obtain ⟨⟨r0, r1, r2, r3, r4, r5⟩, r6, r7⟩ := KR2.out
    go_wp2_with fail
    exact bodyPost_ret (v := .tuple #[(.agg #[.slice none 0 0, .int .i64 0, .int .i64 0, .slice none 0 0]), .int .i64 _]) (by simp [results, Tryz.results63, go_sem, r0, r1, r2, r6]) rfl HP.out
  · go_upto_region 2 with fail
    try rw [HW2.out]
    obtain ⟨⟨r0, r1, r2, r3, r4, r5⟩, r6, r7⟩ := KR2.out
    go_wp2_with fail
    exact bodyPost_ret (v := .tuple #[(.agg #[.slice none 0 0, .int .i64 0, .int .i64 0, .slice none 0 0]), .int .i64 _]) (by simp [results, Tryz.results63, go_sem, r0, r1, r2, r6]) rfl HP.out
  · go_upto_region 2 with fail
    try rw [HW2.out]
    obtain ⟨⟨r0, r1, r2, r3, r4, r5⟩, r6, r7⟩ := KR2.out
    go_wp2_with fail
    exact bodyPost_ret (v := .tuple #[(.agg #[.slice none 0 0, .int .i64 0, .int .i64 0, .slice none 0 0]), .int .i64 _]) (by simp [results, Tryz.results63, go_sem, r0, r1, r2, r6]) rfl HP.out

set_option maxRecDepth 100000 in
set_option maxHeartbeats 3200000 in
/-- Of hands the pair's error on. -/
theorem dof_err (a1 : Option Addr) (n1 cap1 : Nat) (z1 : List Int) (p1 i1 : Int) (a2 : Option Addr) (n2 cap2 : Nat) (z2 : List Int) (p2 i2 : Int) (c : Int) (hc : c = 1 ∨ c = 3 ∨ c = 6)
    (hp : ∀ u, RowZ u a1 n1 cap1 z1 → RowZ u a2 n2 cap2 z2 → Calls Tryz.prog 80 #[curV a1 n1 cap1 p1 i1, curV a2 n2 cap2 p2 i2] u (GivesPBad8 c u)) (w : World) (h1 : RowZ w a1 n1 cap1 z1) (h2 : RowZ w a2 n2 cap2 z2) :
    Calls Tryz.prog 40 #[curV a1 n1 cap1 p1 i1, curV a2 n2 cap2 p2 i2] w (GivesBad c w) := by
  obtain ⟨W, hW⟩ : ∃ W, ((w.alloc (.cells #[.slice a1 n1 cap1, .int .i64 p1, .int .i64 i1] 24)).alloc (.cells #[.slice a2 n2 cap2, .int .i64 p2, .int .i64 i2] 24)).alloc (.cells #[.slice none 0 0, .int .i64 0, .int .i64 0] 24) = W := ⟨_, rfl⟩
  obtain ⟨⟨hB, hWs⟩, k1, k2, kr⟩ := boxesB w a1 n1 cap1 p1 i1 a2 n2 cap2 p2 i2 hW
  have HB := Lib.hid hB
  have KR := Lib.hid kr
  have HR := Lib.hid (And.intro (h1.under hB) (h2.under hB))
  have HW := Lib.hid hW
  have HC := Lib.hid (dprove_err a1 n1 cap1 z1 p1 i1 a2 n2 cap2 z2 p2 i2 c hc hp)
  obtain ⟨c0, c1, c2, f0, f1, f2⟩ := k1
  obtain ⟨d0, d1, d2, e0, e1, e2⟩ := k2
  clear h1 h2 hB kr hWs hW hp hc
  go_enter Tryz.func40, Tryz.ntmps40
  go_wp2_with fail
  try rw [HW.out]
  clear c0 c1 c2 f0 f1 f2 d0 d1 d2 e0 e1 e2
  refine (HC.out _ HR.out.1 HR.out.2).mono ?_
  rintro e v1 ⟨rfl, hb⟩
  obtain ⟨W2, hw⟩ : ∃ W2, v1.alloc (.cells #[.slice none 0 0, .int .i64 0, .int .i64 0, .slice none 0 0] 82) = W2 := ⟨_, rfl⟩
  have h9 : Below v1.heap.size v1 W2 := by rw [← hw]; exact (Below.refl _ _).alloc (Nat.le_refl _) _
  have hz : Below W.heap.size W W2 := hb.trans (h9.mono hb.size)
  have GB := Lib.hid (show G4 W2 v1.heap.size (.slice none 0 0) (.int .i64 0) (.int .i64 0) (.slice none 0 0) by rw [← hw]; exact g4_new v1 _ _ _ _ _)
  have HP := Lib.hid (GivesBad.post (b := w.heap.size + 2) HB.out (by omega) hz c)
  have KR2 := Lib.hid (KR.out.below hz)
  have HW2 := Lib.hid hw
  clear hb hz hw h9
  go_upto_region 2 with fail
  try rw [HW2.out]
  obtain ⟨⟨c0, c1, c2, f0, f1, f2⟩, c3, f3⟩ := GB.out
  obtain ⟨r0, r1, r2, r3, r4, r5⟩ := KR2.out
  go_wp2_with fail
  exact bodyPost_ret (v := .tuple #[curV none 0 0 0 0, .int .i64 c]) (by simp [results, Tryz.results40, go_sem, r0, r1, r2]) rfl HP.out

end Go.Proofs.YtkienpbmoilheaaGreat

namespace Go.Proofs.YtkienpbmoilheaaGreat
open Go.RowKit
set_option linter.unusedSimpArgs false
set_option linter.unusedVariables false

/-- Of the pair only the error is told. -/
def GivesP8E (c : Int) (w : World) (e : Ending) (w' : World) : Prop :=
  ∃ (a1 : Option Addr) (n1 c1 : Nat) (q1 j1 : Int) (a2 : Option Addr) (n2 c2 : Nat) (q2 j2 : Int) (l : Int), e = .returned (.tuple #[curV a1 n1 c1 q1 j1, curV a2 n2 c2 q2 j2, .int .i64 l, .int .i64 c]) ∧ Below w.heap.size w w'
theorem GivesP8E.post {w w3 : World} {s A B : Nat} (hs : w.heap.size = s) (hB : Below s w w3) (hA : A = s + 2) (hB2 : B = s + 3) {c l : Int} {b1 : Option Addr} {m1 c1 : Nat} {q1 : Int} {j1 : Int} {b2 : Option Addr} {m2 c2 : Nat} {q2 : Int} {j2 : Int} :
    GivesP8E c w (.returned (.tuple #[curV b1 m1 c1 q1 j1, curV b2 m2 c2 q2 j2, .int .i64 l, .int .i64 c])) (((((((w3.setCell ⟨A, 0, none⟩ (.slice b1 m1 c1)).setCell ⟨A, 1, none⟩ (.int .i64 q1)).setCell ⟨A, 2, none⟩ (.int .i64 j1)).setCell ⟨B, 0, none⟩ (.slice b2 m2 c2)).setCell ⟨B, 1, none⟩ (.int .i64 q2)).setCell ⟨B, 2, none⟩ (.int .i64 j2)).drew) := by
  subst hs hA hB2
  exact ⟨_, _, _, _, _, _, _, _, _, _, _, rfl, (below_set3 (below_set3 hB (by omega) _ _ _) (by omega) _ _ _).drew⟩

set_option maxRecDepth 100000 in
set_option maxHeartbeats 3200000 in
theorem pair8_state (a1 : Option Addr) (n1 cap1 : Nat) (z1 : List Int) (p1 : Nat) (i1 : Int) (g1 : Good z1 p1 i1) (a2 : Option Addr) (n2 cap2 : Nat) (z2 : List Int) (p2 : Nat) (i2 : Int) (g2 : Good z2 p2 i2) (h0 : ¬ atC z2 p2 i2 0 = 0) (L : Nat) (hL : LcmN z1 p1 i1 z2 p2 i2 L) (l c : Int) (hl : l = if 120 < L then 0 else (L : Int)) (hc : c = if 120 < L then 3 else 0) (w : World) (h1 : RowZ w a1 n1 cap1 z1) (h2 : RowZ w a2 n2 cap2 z2) :
    Calls Tryz.prog 64 #[curV a1 n1 cap1 p1 i1, curV a2 n2 cap2 p2 i2] w (GivesP8E 6 w) := by
  obtain ⟨W, hW⟩ : ∃ W, (((w.alloc (.cells #[.slice a1 n1 cap1, .int .i64 p1, .int .i64 i1] 24)).alloc (.cells #[.slice a2 n2 cap2, .int .i64 p2, .int .i64 i2] 24)).alloc (.cells #[.slice none 0 0, .int .i64 0, .int .i64 0] 24)).alloc (.cells #[.slice none 0 0, .int .i64 0, .int .i64 0] 24) = W := ⟨_, rfl⟩
  obtain ⟨⟨hB, hWs⟩, kf, kg, ka, kb⟩ := boxes4 w a1 n1 cap1 p1 i1 a2 n2 cap2 p2 i2 hW
  have HB := Lib.hid hB
  have KA := Lib.hid ka
  have KB := Lib.hid kb
  have HR := Lib.hid (And.intro (h1.under hB) (h2.under hB))
  have HG := Lib.hid (And.intro g1 g2)
  have HC := Lib.hid (And.intro hl hc)
  have HL := Lib.hid hL
  have H0 := Lib.hid h0
  have HS := Lib.hid hWs
  have hW1 := hW
  obtain ⟨s, hs⟩ : ∃ s, w.heap.size = s := ⟨_, rfl⟩
  have HSS := Lib.hid hs
  obtain ⟨m0, m1, m2, m3, m4, m5⟩ := kf
  obtain ⟨u0, u1, u2, u3, u4, u5⟩ := kg
  rw [hs] at m0 m1 m2 m3 m4 m5 u0 u1 u2 u3 u4 u5
  clear h1 h2 hB ka kb g1 g2 hL hW hl hc hWs h0
  go_enter Tryz.func64, Tryz.ntmps64
  go_wp2_with fail
  try rw [hW1]
  clear hW1 m0 m1 m2 m3 m4 m5 u0 u1 u2 u3 u4 u5
  refine (rpair_any a1 n1 cap1 z1 p1 i1 HG.out.1 a2 n2 cap2 z2 p2 i2 HG.out.2 L HL.out l c HC.out.1 HC.out.2 _ HR.out.1 HR.out.2).mono ?_
  rintro e v1 ⟨b1, m1, c1, y1, q1, j1, b2, m2, c2, y2, q2, j2, rfl, hb, hr1, hr2, hn1, hn2, hx1, hx2⟩
  obtain ⟨w3, hw⟩ : ∃ W, (v1.alloc (.cells #[.slice b1 m1 c1, .int .i64 q1, .int .i64 j1] 24)).alloc (.cells #[.slice b2 m2 c2, .int .i64 q2, .int .i64 j2] 24) = W := ⟨_, rfl⟩
  have hz1 : Below v1.heap.size v1 w3 := by rw [← hw]; exact ((Below.refl _ _).alloc (Nat.le_refl _) _).alloc (by simp) _
  have hz : Below W.heap.size W w3 := hb.trans (hz1.mono hb.size)
  have KA3 := Lib.hid (KA.out.below hz)
  have KB3 := Lib.hid (KB.out.below hz)
  have HB3 := Lib.hid (show Below s w w3 by rw [← hs]; exact HB.out.trans (hz.mono HB.out.size))
  have X13 := Lib.hid (show Bx w3 v1.heap.size b1 m1 c1 q1 j1 y1 by rw [← hw]; exact (Bx.new hr1).under (box_below _ _))
  have X23 := Lib.hid (show Bx w3 (v1.heap.size + 1) b2 m2 c2 q2 j2 y2 by
    rw [← hw]
    have := Bx.new (p := q2) (inc := j2) (hr2.under (box_below v1 (.cells #[.slice b1 m1 c1, .int .i64 q1, .int .i64 j1] 24)))
    simpa using this)
  have F12 := Lib.hid (show (∀ x, b1 = some x → s + 4 ≤ x.block) ∧ (∀ x, b2 = some x → s + 4 ≤ x.block) from ⟨fun x h => by have := hx1 x h; have := HS.out; omega, fun x h => by have := hx2 x h; have := HS.out; omega⟩)
  have N12 := Lib.hid (And.intro hn1 hn2)
  have S1 := Lib.hid (show s + 4 ≤ v1.heap.size by have := hb.size; have := HS.out; omega)
  have hy0 : ¬ y2.getD 0 0 = 0 := by
    have e := hn2.good HG.out.2
    intro h
    have k : atC y2 q2 j2 0 = 0 := (atC_lt (by have := e.p1; have := e.p3; omega)).trans h
    exact H0.out ((hn2.values HG.out.2 0).symm.trans k)
  obtain ⟨m, hm⟩ : ∃ m, y2.getD 0 0 = m := ⟨_, rfl⟩
  rw [hm] at hy0
  have hm2 : 1 ≤ m2 := by have e := hn2.good HG.out.2; have := e.p1; have := e.p3; have := hr2.len; omega
  have HW3 := Lib.hid hw
  obtain ⟨A, hA⟩ : ∃ A, A = s + 2 := ⟨_, rfl⟩
  obtain ⟨B, hBB⟩ : ∃ B, B = A + 1 := ⟨_, rfl⟩
  have HP := Lib.hid (show GivesP8E 6 w _ _ from GivesP8E.post (A := A) (B := B) (b1 := b1) (m1 := m1) (c1 := c1) (q1 := q1) (j1 := j1) (b2 := b2) (m2 := m2) (c2 := c2) (q2 := q2) (j2 := j2) (l := l) hs HB3.out hA (by omega))
  obtain ⟨x, rfl, cv⟩ := X23.out.row.cell 0 (by omega)
  rw [hm, addr07] at cv
  obtain ⟨g0, g1, g2, g3, g4, g5⟩ := X13.out.box
  obtain ⟨d0, d1, d2, d3, d4, d5⟩ := X23.out.box
  obtain ⟨k0, k1, k2, k3, k4, k5⟩ := KA3.out
  obtain ⟨r0, r1, r2, r3, r4, r5⟩ := KB3.out
  have l1 : s + 4 ≤ v1.heap.size := S1.out
  rw [hs, ← hA] at k0 k1 k2 k3 k4 k5
  rw [hs, show s + 3 = B by omega] at r0 r1 r2 r3 r4 r5
  have t1 : ¬ A = B := by omega
  have t1' : ¬ B = A := by omega
  have t2 : ¬ A = v1.heap.size := by omega
  have t3 : ¬ B = v1.heap.size := by omega
  have t4 : ¬ A = v1.heap.size + 1 := by omega
  have t5 : ¬ B = v1.heap.size + 1 := by omega
  have t2' : ¬ v1.heap.size = A := by omega
  have t3' : ¬ v1.heap.size = B := by omega
  have t4' : ¬ v1.heap.size + 1 = A := by omega
  have t5' : ¬ v1.heap.size + 1 = B := by omega
  have z0 : (0 : Int) < (m2 : Int) := by omega
  have z1' : 0 < m2 := by omega
  have HAB := Lib.hid (And.intro hA hBB)
  clear hb hr1 hr2 hn1 hn2 hx1 hx2 hw hz hz1 hm
  by_cases h120 : 120 < L
  · obtain ⟨el, ec⟩ := HC.out
    rw [if_pos h120] at el ec
    subst el ec
    clear h120
    go_upto_region 2 with fail
    try rw [HW3.out]
    go_upto_region 4 with fail
    rw [← hA, ← hBB]
    clear hA hBB l1
    go_region
    go_wp2_with fail
    exact bodyPost_ret (v := .tuple #[curV b1 m1 c1 q1 j1, curV (some x) m2 c2 q2 j2, .int .i64 0, .int .i64 6]) (by simp [results, Tryz.results64, go_sem, k0, k1, k2, k3, k4, k5, r0, r1, r2, r3, r4, r5, t1, t1']) rfl HP.out
  · obtain ⟨el, ec⟩ := HC.out
    rw [if_neg h120] at el ec
    subst el ec
    clear h120
    go_upto_region 2 with fail
    try rw [HW3.out]
    go_upto_region 4 with fail
    rw [← hA, ← hBB]
    clear hA hBB l1
    go_region
    go_wp2_with fail
    exact bodyPost_ret (v := .tuple #[curV b1 m1 c1 q1 j1, curV (some x) m2 c2 q2 j2, .int .i64 (L : Int), .int .i64 6]) (by simp [results, Tryz.results64, go_sem, k0, k1, k2, k3, k4, k5, r0, r1, r2, r3, r4, r5, t1, t1']) rfl HP.out

theorem pair8_lim (a1 : Option Addr) (n1 cap1 : Nat) (z1 : List Int) (p1 : Nat) (i1 : Int) (g1 : Good z1 p1 i1) (a2 : Option Addr) (n2 cap2 : Nat) (z2 : List Int) (p2 : Nat) (i2 : Int) (g2 : Good z2 p2 i2) (L : Nat) (hL : LcmN z1 p1 i1 z2 p2 i2 L) (h0 : atC z2 p2 i2 0 = 0) (hL2 : 120 < L) (w : World) (h1 : RowZ w a1 n1 cap1 z1) (h2 : RowZ w a2 n2 cap2 z2) :
    Calls Tryz.prog 64 #[curV a1 n1 cap1 p1 i1, curV a2 n2 cap2 p2 i2] w (GivesP8E 3 w) := by
  refine (pair8 a1 n1 cap1 z1 p1 i1 g1 a2 n2 cap2 z2 p2 i2 g2 h0 L hL 0 3 (if_pos hL2).symm (if_pos hL2).symm w h1 h2).mono ?_
  rintro e v1 ⟨b1, m1, c1, y1, q1, j1, b2, m2, c2, y2, q2, j2, rfl, hb, _⟩
  exact ⟨_, _, _, _, _, _, _, _, _, _, _, rfl, hb⟩

set_option maxRecDepth 100000 in
set_option maxHeartbeats 3200000 in
theorem pair8_bad (a1 : Option Addr) (n1 cap1 : Nat) (z1 : List Int) (p1 i1 : Int) (hp1 : In64 p1) (hi1 : In64 i1) (a2 : Option Addr) (n2 cap2 : Nat) (z2 : List Int) (p2 i2 : Int) (hp2 : In64 p2) (hi2 : In64 i2) (hv : okC z1 p1 i1 = false ∨ okC z2 p2 i2 = false) (w : World) (h1 : RowZ w a1 n1 cap1 z1) (h2 : RowZ w a2 n2 cap2 z2) :
    Calls Tryz.prog 64 #[curV a1 n1 cap1 p1 i1, curV a2 n2 cap2 p2 i2] w (GivesP8E 1 w) := by
  obtain ⟨W, hW⟩ : ∃ W, (((w.alloc (.cells #[.slice a1 n1 cap1, .int .i64 p1, .int .i64 i1] 24)).alloc (.cells #[.slice a2 n2 cap2, .int .i64 p2, .int .i64 i2] 24)).alloc (.cells #[.slice none 0 0, .int .i64 0, .int .i64 0] 24)).alloc (.cells #[.slice none 0 0, .int .i64 0, .int .i64 0] 24) = W := ⟨_, rfl⟩
  obtain ⟨⟨hB, hWs⟩, kf, kg, ka, kb⟩ := boxes4 w a1 n1 cap1 p1 i1 a2 n2 cap2 p2 i2 hW
  have HB := Lib.hid hB
  have KA := Lib.hid ka
  have KB := Lib.hid kb
  have HR := Lib.hid (And.intro (h1.under hB) (h2.under hB))
  have HI := Lib.hid (And.intro (And.intro hp1 hi1) (And.intro hp2 hi2))
  have HV := Lib.hid hv
  have HS := Lib.hid hWs
  have hW1 := hW
  obtain ⟨s, hs⟩ : ∃ s, w.heap.size = s := ⟨_, rfl⟩
  have HSS := Lib.hid hs
  obtain ⟨m0, m1, m2, m3, m4, m5⟩ := kf
  obtain ⟨u0, u1, u2, u3, u4, u5⟩ := kg
  rw [hs] at m0 m1 m2 m3 m4 m5 u0 u1 u2 u3 u4 u5
  clear h1 h2 hB ka kb hW hWs hp1 hi1 hp2 hi2 hv
  go_enter Tryz.func64, Tryz.ntmps64
  go_wp2_with fail
  try rw [hW1]
  clear hW1 m0 m1 m2 m3 m4 m5 u0 u1 u2 u3 u4 u5
  refine (rpair_bad a1 n1 cap1 z1 p1 i1 HI.out.1.1 HI.out.1.2 a2 n2 cap2 z2 p2 i2 HI.out.2.1 HI.out.2.2 HV.out _ HR.out.1 HR.out.2).mono ?_
  rintro e v1 ⟨b1, m1, c1, q1, j1, b2, m2, c2, q2, j2, rfl, hb⟩
  obtain ⟨w3, hw⟩ : ∃ W, (v1.alloc (.cells #[.slice b1 m1 c1, .int .i64 q1, .int .i64 j1] 24)).alloc (.cells #[.slice b2 m2 c2, .int .i64 q2, .int .i64 j2] 24) = W := ⟨_, rfl⟩
  have hz1 : Below v1.heap.size v1 w3 := by rw [← hw]; exact ((Below.refl _ _).alloc (Nat.le_refl _) _).alloc (by simp) _
  have hz : Below W.heap.size W w3 := hb.trans (hz1.mono hb.size)
  have KA3 := Lib.hid (KA.out.below hz)
  have KB3 := Lib.hid (KB.out.below hz)
  have HB3 := Lib.hid (show Below s w w3 by rw [← hs]; exact HB.out.trans (hz.mono HB.out.size))
  have X13 := Lib.hid (show Cur3 w3 v1.heap.size (.slice b1 m1 c1) (.int .i64 q1) (.int .i64 j1) by rw [← hw]; exact (Cur3.new _ _ _ _ _).alloc _)
  have X23 := Lib.hid (show Cur3 w3 (v1.heap.size + 1) (.slice b2 m2 c2) (.int .i64 q2) (.int .i64 j2) by rw [← hw]; exact Cur3.new2 _ _ _ _ _ _)
  have S1 := Lib.hid (show s + 4 ≤ v1.heap.size by have := hb.size; have := HS.out; omega)
  have HW3 := Lib.hid hw
  obtain ⟨A, hA⟩ : ∃ A, A = s + 2 := ⟨_, rfl⟩
  obtain ⟨B, hBB⟩ : ∃ B, B = A + 1 := ⟨_, rfl⟩
  have HP := Lib.hid (show GivesP8E 1 w _ _ from GivesP8E.post (A := A) (B := B) (b1 := b1) (m1 := m1) (c1 := c1) (q1 := q1) (j1 := j1) (b2 := b2) (m2 := m2) (c2 := c2) (q2 := q2) (j2 := j2) (l := 0) hs HB3.out hA (by omega))
  obtain ⟨g0, g1, g2, g3, g4, g5⟩ := X13.out
  obtain ⟨d0, d1, d2, d3, d4, d5⟩ := X23.out
  obtain ⟨k0, k1, k2, k3, k4, k5⟩ := KA3.out
  obtain ⟨r0, r1, r2, r3, r4, r5⟩ := KB3.out
  have l1 : s + 4 ≤ v1.heap.size := S1.out
  rw [hs, ← hA] at k0 k1 k2 k3 k4 k5
  rw [hs, show s + 3 = B by omega] at r0 r1 r2 r3 r4 r5
  have t1 : ¬ A = B := by omega
  have t1' : ¬ B = A := by omega
  have t2 : ¬ A = v1.heap.size := by omega
  have t3 : ¬ B = v1.heap.size := by omega
  have t4 : ¬ A = v1.heap.size + 1 := by omega
  have t5 : ¬ B = v1.heap.size + 1 := by omega
  have t2' : ¬ v1.heap.size = A := by omega
  have t3' : ¬ v1.heap.size = B := by omega
  have t4' : ¬ v1.heap.size + 1 = A := by omega
  have t5' : ¬ v1.heap.size + 1 = B := by omega
  have HAB := Lib.hid (And.intro hA hBB)
  clear hb hw hz hz1
  go_upto_region 4 with fail
  try rw [HW3.out]
  rw [← hA, ← hBB]
  clear hA hBB l1
  go_region
  go_wp2_with fail
  exact bodyPost_ret (v := .tuple #[curV b1 m1 c1 q1 j1, curV b2 m2 c2 q2 j2, .int .i64 0, .int .i64 1]) (by simp [results, Tryz.results64, go_sem, k0, k1, k2, k3, k4, k5, r0, r1, r2, r3, r4, r5, t1, t1']) rfl HP.out

set_option maxRecDepth 100000 in
set_option maxHeartbeats 3200000 in
/-- The document's Of hands the pair's error on. -/
theorem rof8_err (a1 : Option Addr) (n1 cap1 : Nat) (z1 : List Int) (p1 i1 : Int) (a2 : Option Addr) (n2 cap2 : Nat) (z2 : List Int) (p2 i2 : Int) (c : Int) (hc : c = 1 ∨ c = 3 ∨ c = 6)
    (hp : ∀ u, RowZ u a1 n1 cap1 z1 → RowZ u a2 n2 cap2 z2 → Calls Tryz.prog 64 #[curV a1 n1 cap1 p1 i1, curV a2 n2 cap2 p2 i2] u (GivesP8E c u)) (w : World) (h1 : RowZ w a1 n1 cap1 z1) (h2 : RowZ w a2 n2 cap2 z2) :
    Calls Tryz.prog 41 #[curV a1 n1 cap1 p1 i1, curV a2 n2 cap2 p2 i2] w (GivesBad c w) := by
  have HQ := Lib.hid hp
  obtain ⟨W, hW⟩ : ∃ W, ((w.alloc (.cells #[.slice a1 n1 cap1, .int .i64 p1, .int .i64 i1] 24)).alloc (.cells #[.slice a2 n2 cap2, .int .i64 p2, .int .i64 i2] 24)).alloc (.cells #[.slice none 0 0, .int .i64 0, .int .i64 0] 24) = W := ⟨_, rfl⟩
  obtain ⟨⟨hB, hWs⟩, k1, k2, kr⟩ := boxesB w a1 n1 cap1 p1 i1 a2 n2 cap2 p2 i2 hW
  have HB := Lib.hid hB
  have KR := Lib.hid kr
  have HR := Lib.hid (And.intro (h1.under hB) (h2.under hB))
  have HWS := Lib.hid hWs
  have hW1 := hW
  obtain ⟨m0, m1, m2, m3, m4, m5⟩ := k1
  obtain ⟨u0, u1, u2, u3, u4, u5⟩ := k2
  clear h1 h2 hB kr hW hWs hp
  go_enter Tryz.func41, Tryz.ntmps41
  go_wp2_with fail
  try rw [hW1]
  clear hW1 m0 m1 m2 m3 m4 m5 u0 u1 u2 u3 u4 u5
  refine (HQ.out _ HR.out.1 HR.out.2).mono ?_
  rintro e v1 ⟨b1, m1, c1, q1, j1, b2, m2, c2, q2, j2, l, rfl, hb⟩
  obtain ⟨W2, hw⟩ : ∃ W2, (v1.alloc (.cells #[.slice b1 m1 c1, .int .i64 q1, .int .i64 j1] 24)).alloc (.cells #[.slice b2 m2 c2, .int .i64 q2, .int .i64 j2] 24) = W2 := ⟨_, rfl⟩
  have hWz : Below W.heap.size W W2 := by rw [← hw]; exact (hb.alloc hb.size _).alloc (by have := hb.size; simp; omega) _
  have HP := Lib.hid (GivesBad.post (b := w.heap.size + 2) HB.out (by omega) hWz c)
  obtain ⟨r0, r1, r2, r3, r4, r5⟩ := KR.out.below hWz
  clear hWz hb
  rcases hc with rfl | rfl | rfl
  · go_wp2_with fail
    try rw [hw]
    exact bodyPost_ret (v := .tuple #[curV none 0 0 0 0, .int .i64 1]) (by simp [results, Tryz.results41, go_sem, r0, r1, r2]) rfl HP.out
  · go_wp2_with fail
    try rw [hw]
    exact bodyPost_ret (v := .tuple #[curV none 0 0 0 0, .int .i64 3]) (by simp [results, Tryz.results41, go_sem, r0, r1, r2]) rfl HP.out
  · go_wp2_with fail
    try rw [hw]
    exact bodyPost_ret (v := .tuple #[curV none 0 0 0 0, .int .i64 6]) (by simp [results, Tryz.results41, go_sem, r0, r1, r2]) rfl HP.out

end Go.Proofs.YtkienpbmoilheaaGreat

namespace Go.Proofs.YtkienpbmoilheaaGreat
open Go.RowKit

/-- A curve and an error that a call hands back. -/
def GivesCE (zs : List Int) (p inc c : Int) (w : World) (e : Ending) (w' : World) : Prop :=
  ∃ (a : Option Addr) (n cap : Nat), e = .returned (.tuple #[curV a n cap p inc, .int .i64 c]) ∧ Below w.heap.size w w' ∧ RowZ w' a n cap zs ∧ ∀ x, a = some x → w.heap.size ≤ x.block
theorem GivesBad.ce {c : Int} {w w' : World} {e : Ending} (h : GivesBad c w e w') : GivesCE [] 0 0 c w e w' :=
  ⟨none, 0, 0, h.1, h.2, rowZ_none _, fun x hx => by cases hx⟩
theorem GivesE.ce {E : Nat → Option Int} {zs : List Int} {p : Nat} {inc : Int} (hf : EForm zs p inc E) {w w' : World} {e : Ending} (h : GivesE E w e w') : GivesCE zs p inc 0 w e w' := by
  obtain ⟨hb, ⟨a, n, cap, ys, q, jnc, rfl, hr, hk, hx⟩ | ⟨_, hno⟩⟩ := h
  · obtain ⟨rfl, rfl, rfl⟩ := hk.unique hf
    exact ⟨a, n, cap, rfl, hb, hr, hx⟩
  · exact absurd hf.can hno
theorem GivesE.ceNo {E : Nat → Option Int} (hn : ¬ ECan E) {w w' : World} {e : Ending} (h : GivesE E w e w') : GivesCE [] 0 0 3 w e w' := by
  obtain ⟨hb, ⟨a, n, cap, ys, q, jnc, rfl, hr, hk, hx⟩ | ⟨rfl, hno⟩⟩ := h
  · exact absurd hk.can hn
  · exact ⟨none, 0, 0, rfl, hb, rowZ_none _, fun x hx => by cases hx⟩
theorem ECan.form_ex {E : Nat → Option Int} (h : ECan E) : ∃ (zs : List Int) (p : Nat) (inc : Int), EForm zs p inc E := by
  obtain ⟨zs, p, inc, g, he⟩ := h
  obtain ⟨ys, q, jnc, hn⟩ := g.norm_ex
  have := NormC.eform g hn
  rw [funext he] at this
  exact ⟨ys, q, jnc, this⟩

/-- Whatever the values are: there is one answer that all give who give the curve with these values. -/
theorem e_ex (E : Nat → Option Int) : ∃ (zs : List Int) (p inc c : Int), ((c = 0 ∧ ∃ q : Nat, p = q ∧ EForm zs q inc E) ∨ (c = 3 ∧ zs = [] ∧ p = 0 ∧ inc = 0 ∧ ¬ ECan E)) ∧ ∀ (w : World) (e : Ending) (w' : World), GivesE E w e w' → GivesCE zs p inc c w e w' := by
  by_cases h : ECan E
  · obtain ⟨zs, p, inc, hf⟩ := h.form_ex
    exact ⟨zs, p, inc, 0, .inl ⟨rfl, p, rfl, hf⟩, fun _ _ _ k => k.ce hf⟩
  · exact ⟨[], 0, 0, 3, .inr ⟨rfl, rfl, rfl, rfl, h⟩, fun _ _ _ k => k.ceNo h⟩

end Go.Proofs.YtkienpbmoilheaaGreat
