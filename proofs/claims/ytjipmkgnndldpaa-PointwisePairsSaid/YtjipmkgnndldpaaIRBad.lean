/- The document's Pair, and its convolution, at curves that are not valid and at great common periods. By the verifier's side. -/
import Derived.Test.YtjipmkgnndldpaaIRCo1
import Derived.Test.YtjipmkgnndldpaaIRefARefP
import Derived.Test.YtjipmkgnndldpaaIRCo3
import Derived.Test.YtjipmkgnndldpaaIR5D
import Derived.Test.YtjipmkgnndldpaaILong
import Derived.Test.YtjipmkgnndldpaaIPwSPwU
namespace Go.Proofs.Ytjipmkgnndldpaa
open Go.RowKit
set_option linter.unusedSimpArgs false
set_option linter.unusedVariables false

/-- Of the normal form only the error is told. -/
def GivesNC (c : Int) (w : World) (e : Ending) (w' : World) : Prop :=
  ∃ (a : Option Addr) (n cap : Nat) (p inc : Int), e = .returned (.tuple #[curV a n cap p inc, .int .i64 c]) ∧ Below w.heap.size w w'
theorem rnormal_c (a : Option Addr) (n cap : Nat) (zs : List Int) (p inc : Int) (hp : In64 p) (hi : In64 inc) (c : Int) (hc : c = if okC zs p inc = true then 0 else 1) (w : World) (h : RowZ w a n cap zs) :
    Calls Try.prog 122 #[curV a n cap p inc] w (GivesNC c w) := by
  cases hok : okC zs p inc with
  | false =>
    rw [hok] at hc
    obtain rfl : c = 1 := hc
    refine (rnormal_bad a n cap zs p inc hp hi hok w h).mono ?_
    rintro e w' ⟨rfl, hb⟩
    exact ⟨_, _, _, _, _, rfl, hb⟩
  | true =>
    rw [hok] at hc
    obtain rfl : c = 0 := hc
    obtain ⟨q, rfl, g⟩ := okC_pos hok
    refine (rnormal_ok a n cap zs q inc g w h).mono ?_
    rintro e w' ⟨a', n', cap', zs', p', inc', rfl, hb, _, _, _⟩
    exact ⟨_, _, _, _, _, rfl, hb⟩

set_option maxRecDepth 100000 in
set_option maxHeartbeats 3200000 in
theorem rpair_bad (a1 : Option Addr) (n1 cap1 : Nat) (z1 : List Int) (p1 i1 : Int) (hp1 : In64 p1) (hi1 : In64 i1) (a2 : Option Addr) (n2 cap2 : Nat) (z2 : List Int) (p2 i2 : Int) (hp2 : In64 p2) (hi2 : In64 i2) (hv : okC z1 p1 i1 = false ∨ okC z2 p2 i2 = false) (w : World) (h1 : RowZ w a1 n1 cap1 z1) (h2 : RowZ w a2 n2 cap2 z2) :
    Calls Try.prog 127 #[curV a1 n1 cap1 p1 i1, curV a2 n2 cap2 p2 i2] w (GivesPairBad w) := by
  obtain ⟨W, hW⟩ : ∃ W, (((w.alloc (.cells #[.slice a1 n1 cap1, .int .i64 p1, .int .i64 i1] 38)).alloc (.cells #[.slice a2 n2 cap2, .int .i64 p2, .int .i64 i2] 38)).alloc (.cells #[.slice none 0 0, .int .i64 0, .int .i64 0] 38)).alloc (.cells #[.slice none 0 0, .int .i64 0, .int .i64 0] 38) = W := ⟨_, rfl⟩
  obtain ⟨⟨hB, hWs⟩, kf, kg, ka, kb⟩ := boxes4 w a1 n1 cap1 p1 i1 a2 n2 cap2 p2 i2 hW
  have HB := Lib.hid hB
  have KG := Lib.hid kg
  have KA := Lib.hid ka
  have KB := Lib.hid kb
  have HR := Lib.hid (And.intro (h1.under hB) (h2.under hB))
  have HI := Lib.hid (And.intro (And.intro hp1 hi1) (And.intro hp2 hi2))
  obtain ⟨x1, hx1⟩ : ∃ c : Int, c = if okC z1 p1 i1 = true then 0 else 1 := ⟨_, rfl⟩
  obtain ⟨x2, hx2⟩ : ∃ c : Int, c = if okC z2 p2 i2 = true then 0 else 1 := ⟨_, rfl⟩
  have HX := Lib.hid (And.intro hx1 hx2)
  have HXX := Lib.hid (show (x1 = 1 ∨ x1 = 0) ∧ (x1 = 0 → x2 = 1) by
    rcases hv with h | h
    · rw [h] at hx1; exact ⟨.inl hx1, fun e => by rw [e] at hx1; cases hx1⟩
    · rw [h] at hx2
      refine ⟨?_, fun _ => hx2⟩
      cases h3 : okC z1 p1 i1 with
      | true => rw [h3] at hx1; exact .inr hx1
      | false => rw [h3] at hx1; exact .inl hx1)
  have HS := Lib.hid hWs
  have hW1 := hW
  obtain ⟨s, hs⟩ : ∃ s, w.heap.size = s := ⟨_, rfl⟩
  have HSS := Lib.hid hs
  obtain ⟨m0, m1, m2, m3, m4, m5⟩ := kf
  rw [hs] at m0 m1 m2 m3 m4 m5
  clear h1 h2 hB kg ka kb hW hWs hp1 hi1 hp2 hi2 hv hx1 hx2
  go_enter Try.func127, Try.ntmps127
  go_wp2_with fail
  try rw [hW1]
  clear hW1 m0 m1 m2 m3 m4 m5
  refine (rnormal_c a1 n1 cap1 z1 p1 i1 HI.out.1.1 HI.out.1.2 x1 HX.out.1 _ HR.out.1).mono ?_
  rintro e v1 ⟨b1, m1, c1, q1, j1, rfl, hb⟩
  obtain ⟨w1, hw⟩ : ∃ W, v1.alloc (.cells #[.slice b1 m1 c1, .int .i64 q1, .int .i64 j1] 38) = W := ⟨_, rfl⟩
  have hz : Below W.heap.size W w1 := by rw [← hw]; exact hb.trans ((below_box _).mono hb.size)
  have KG1 := Lib.hid (KG.out.below hz)
  have KA1 := Lib.hid (KA.out.below hz)
  have KB1 := Lib.hid (KB.out.below hz)
  have HB1 := Lib.hid (HB.out.trans (hz.mono HB.out.size))
  have R2 := Lib.hid (HR.out.2.under hz)
  have X1 := Lib.hid (show Cur3 w1 v1.heap.size (.slice b1 m1 c1) (.int .i64 q1) (.int .i64 j1) by rw [← hw]; exact Cur3.new _ _ _ _ _)
  have S1 := Lib.hid (show w.heap.size + 4 ≤ v1.heap.size by have := hb.size; have := HS.out; omega)
  have hw1 := hw
  obtain ⟨g0, g1, g2, g3, g4, g5⟩ := KG1.out
  clear hb hw hz
  rw [hs] at g0 g1 g2 g3 g4 g5
  go_wp2_with fail
  try rw [hw1]
  clear hw1 g0 g1 g2 g3 g4 g5
  refine (rnormal_c a2 n2 cap2 z2 p2 i2 HI.out.2.1 HI.out.2.2 x2 HX.out.2 _ R2.out).mono ?_
  rintro e v2 ⟨b2, m2, c2, q2, j2, rfl, hb⟩
  obtain ⟨w2, hw⟩ : ∃ W, v2.alloc (.cells #[.slice b2 m2 c2, .int .i64 q2, .int .i64 j2] 38) = W := ⟨_, rfl⟩
  have hz : Below w1.heap.size w1 w2 := by rw [← hw]; exact hb.trans ((below_box _).mono hb.size)
  have KA2 := Lib.hid (KA1.out.below hz)
  have KB2 := Lib.hid (KB1.out.below hz)
  have HB2 := Lib.hid (HB1.out.trans (hz.mono HB1.out.size))
  have X12 := Lib.hid (X1.out.below hz)
  have X2 := Lib.hid (show Cur3 w2 v2.heap.size (.slice b2 m2 c2) (.int .i64 q2) (.int .i64 j2) by rw [← hw]; exact Cur3.new _ _ _ _ _)
  have S2 := Lib.hid (show w.heap.size + 4 ≤ v2.heap.size by have := hb.size; have := X1.out.lt; have := S1.out; omega)
  have hw2 := hw
  obtain ⟨A, hA⟩ : ∃ A, A = s + 2 := ⟨_, rfl⟩
  obtain ⟨B, hBB⟩ : ∃ B, B = A + 1 := ⟨_, rfl⟩
  have HP := Lib.hid (show GivesPairBad w (.returned (.tuple #[curV b1 m1 c1 q1 j1, curV b2 m2 c2 q2 j2, .int .i64 0, .int .i64 1])) (((((((w2.setCell ⟨A, 0, none⟩ (.slice b1 m1 c1)).setCell ⟨A, 1, none⟩ (.int .i64 q1)).setCell ⟨A, 2, none⟩ (.int .i64 j1)).setCell ⟨B, 0, none⟩ (.slice b2 m2 c2)).setCell ⟨B, 1, none⟩ (.int .i64 q2)).setCell ⟨B, 2, none⟩ (.int .i64 j2)).drew) from
    ⟨_, _, _, _, _, _, _, _, _, _, rfl, (below_set3 (below_set3 HB2.out (by omega) _ _ _) (by omega) _ _ _).drew⟩)
  obtain ⟨g0, g1, g2, g3, g4, g5⟩ := X12.out
  obtain ⟨d0, d1, d2, d3, d4, d5⟩ := X2.out
  obtain ⟨k0, k1, k2, k3, k4, k5⟩ := KA2.out
  obtain ⟨r0, r1, r2, r3, r4, r5⟩ := KB2.out
  have l1 : s + 4 ≤ v1.heap.size := by have := S1.out; omega
  have l2 : s + 4 ≤ v2.heap.size := by have := S2.out; omega
  rw [hs, ← hA] at k0 k1 k2 k3 k4 k5
  rw [hs, show s + 3 = B by omega] at r0 r1 r2 r3 r4 r5
  have t1 : ¬ A = B := by omega
  have t1' : ¬ B = A := by omega
  have t2 : ¬ A = v1.heap.size := by omega
  have t3 : ¬ B = v1.heap.size := by omega
  have t4 : ¬ A = v2.heap.size := by omega
  have t5 : ¬ B = v2.heap.size := by omega
  have t2' : ¬ v1.heap.size = A := by omega
  have t3' : ¬ v1.heap.size = B := by omega
  have t4' : ¬ v2.heap.size = A := by omega
  have t5' : ¬ v2.heap.size = B := by omega
  clear hb hw hz
  rcases HXX.out.1 with rfl | rfl
  · go_upto_region 4 with fail
    try rw [hw2]
    rw [← hA, ← hBB]
    clear hA hBB l1 l2
    go_region
    go_wp2_with fail
    exact bodyPost_ret (v := .tuple #[curV b1 m1 c1 q1 j1, curV b2 m2 c2 q2 j2, .int .i64 0, .int .i64 1]) (by simp [results, Try.results127, go_sem, k0, k1, k2, k3, k4, k5, r0, r1, r2, r3, r4, r5, t1, t1']) rfl HP.out
  · obtain rfl := HXX.out.2 rfl
    go_upto_region 4 with fail
    try rw [hw2]
    rw [← hA, ← hBB]
    clear hA hBB l1 l2
    go_region
    go_wp2_with fail
    exact bodyPost_ret (v := .tuple #[curV b1 m1 c1 q1 j1, curV b2 m2 c2 q2 j2, .int .i64 0, .int .i64 1]) (by simp [results, Try.results127, go_sem, k0, k1, k2, k3, k4, k5, r0, r1, r2, r3, r4, r5, t1, t1']) rfl HP.out

set_option maxRecDepth 100000 in
set_option maxHeartbeats 1600000 in
theorem rsum_bad (a1 : Option Addr) (n1 cap1 : Nat) (z1 : List Int) (p1 i1 : Int) (hp1 : In64 p1) (hi1 : In64 i1) (a2 : Option Addr) (n2 cap2 : Nat) (z2 : List Int) (p2 i2 : Int) (hp2 : In64 p2) (hi2 : In64 i2) (hv : okC z1 p1 i1 = false ∨ okC z2 p2 i2 = false) (w : World) (h1 : RowZ w a1 n1 cap1 z1) (h2 : RowZ w a2 n2 cap2 z2) :
    Calls Try.prog 46 #[curV a1 n1 cap1 p1 i1, curV a2 n2 cap2 p2 i2] w (GivesBad 1 w) := by
  have HV := Lib.hid hv
  have HI := Lib.hid (And.intro (And.intro hp1 hi1) (And.intro hp2 hi2))
  obtain ⟨W, hW⟩ : ∃ W, ((w.alloc (.cells #[.slice a1 n1 cap1, .int .i64 p1, .int .i64 i1] 38)).alloc (.cells #[.slice a2 n2 cap2, .int .i64 p2, .int .i64 i2] 38)).alloc (.cells #[.slice none 0 0, .int .i64 0, .int .i64 0] 38) = W := ⟨_, rfl⟩
  obtain ⟨⟨hB, hWs⟩, k1, k2, kr⟩ := boxesB w a1 n1 cap1 p1 i1 a2 n2 cap2 p2 i2 hW
  have HB := Lib.hid hB
  have KR := Lib.hid kr
  have HR := Lib.hid (And.intro (h1.under hB) (h2.under hB))
  have HWS := Lib.hid hWs
  have hW1 := hW
  obtain ⟨m0, m1, m2, m3, m4, m5⟩ := k1
  obtain ⟨u0, u1, u2, u3, u4, u5⟩ := k2
  clear h1 h2 hB kr hW hWs hv hp1 hi1 hp2 hi2
  go_enter Try.func46, Try.ntmps46
  go_wp2_with fail
  try rw [hW1]
  clear hW1 m0 m1 m2 m3 m4 m5 u0 u1 u2 u3 u4 u5
  refine (rpair_bad a1 n1 cap1 z1 p1 i1 HI.out.1.1 HI.out.1.2 a2 n2 cap2 z2 p2 i2 HI.out.2.1 HI.out.2.2 HV.out _ HR.out.1 HR.out.2).mono ?_
  rintro e v1 ⟨b1, m1, c1, q1, j1, b2, m2, c2, q2, j2, rfl, hb⟩
  obtain ⟨W2, hw⟩ : ∃ W2, (v1.alloc (.cells #[.slice b1 m1 c1, .int .i64 q1, .int .i64 j1] 38)).alloc (.cells #[.slice b2 m2 c2, .int .i64 q2, .int .i64 j2] 38) = W2 := ⟨_, rfl⟩
  have hWz : Below W.heap.size W W2 := by rw [← hw]; exact (hb.alloc hb.size _).alloc (by have := hb.size; simp; omega) _
  have HP := Lib.hid (GivesBad.post (b := w.heap.size + 2) HB.out (by omega) hWz 1)
  obtain ⟨r0, r1, r2, r3, r4, r5⟩ := KR.out.below hWz
  clear hWz
  clear hb
  go_wp2_with fail
  try rw [hw]
  exact bodyPost_ret (v := .tuple #[curV none 0 0 0 0, .int .i64 1]) (by simp [results, Try.results46, go_sem, r0, r1, r2]) rfl HP.out


end Go.Proofs.Ytjipmkgnndldpaa
