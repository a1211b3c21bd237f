/- Of the document's convolution: plus, start, finite, grows, slope, repeats. By the verifier's side. -/
import Derived.Test.YthljhddnfflpjaaPR5D
import Derived.Test.YthljhddnfflpjaaPConMN
import Derived.BigRegion
import Derived.Test.YthljhddnfflpjaaPRefA
namespace Go.Proofs.Ythljhddnfflpjaa
open Go.RowKit
set_option linter.unusedSimpArgs false
set_option linter.unusedVariables false

theorem plus7 (a b : Int) (ha : Mid a) (hb : Mid b) (v : Int) (hv : plI a b = v) (w : World) : Calls Try.prog 213 #[.int .i64 a, .int .i64 b] w fun e w' => e = .returned (.int .i64 v) ∧ w' = w := by
  subst hv
  obtain ⟨a1, a2, a3⟩ := ha.bd
  obtain ⟨b1, b2, b3⟩ := hb.bd
  by_cases h1 : a = 4611686018427387904
  · subst h1
    have e : plI 4611686018427387904 b = 4611686018427387904 := plI_l b
    rw [e]
    clear ha hb
    go_enter Try.func213, Try.ntmps213
    go_wp2_with fail
    go_ret
    exact ⟨rfl, rfl⟩
  · by_cases h2 : b = 4611686018427387904
    · subst h2
      have e : plI a 4611686018427387904 = 4611686018427387904 := plI_r a
      rw [e]
      have t1 : (a == 4611686018427387904) = false := by simpa using h1
      clear ha hb h1
      go_enter Try.func213, Try.ntmps213
      go_wp2_with fail
      go_ret
      exact ⟨rfl, rfl⟩
    · have e : plI a b = a + b := plI_fin h1 h2
      rw [e]
      have t1 : (a == 4611686018427387904) = false := by simpa using h1
      have t2 : (b == 4611686018427387904) = false := by simpa using h2
      have a4 : a ≤ 1125899906842624 := by omega
      have b4 : b ≤ 1125899906842624 := by omega
      clear ha hb h1 h2 a3 b3 e
      go_enter Try.func213, Try.ntmps213
      go_wp2_with fail
      go_ret
      exact ⟨rfl, rfl⟩

theorem start7 (a : Option Addr) (n cap p : Nat) (inc : Int) (hp : p ≤ n) (hn : n ≤ 100000) (v : Int) (hv : ((n - p : Nat) : Int) = v) (w : World) : Calls Try.prog 119 #[curV a n cap p inc] w (Says (.int .i64 v) w) := by
  subst hv
  have HB := Lib.hid (below_box (w := w) (.cells #[.slice a n cap, .int .i64 p, .int .i64 inc] 24))
  have k := Cur3.new w (.slice a n cap) (.int .i64 p) (.int .i64 inc) 24
  obtain ⟨c0, c1, c2, c3, c4, c5⟩ := k
  have e : (n : Int) - (p : Int) = ((n - p : Nat) : Int) := by omega
  have ew : IntKind.i64.wrap ((n - p : Nat) : Int) = ((n - p : Nat) : Int) := IntWalk.i64_in _ ⟨by omega, by omega⟩
  go_enter Try.func119, Try.ntmps119
  go_wp2_with fail
  go_ret
  exact ⟨by first | rfl | (rw [e]) | (simp [e]), HB.out⟩

theorem infC7 (zs : List Int) : InfC zs ↔ zs.getD (zs.length - 1) 0 = infV := Iff.rfl
theorem finite7 (a : Option Addr) (n cap : Nat) (zs : List Int) (p : Nat) (inc : Int) (hn : 1 ≤ n) (hn2 : n ≤ 100000) (b : Bool) (hb : b = true ↔ ¬ InfC zs) (w : World) (h : RowZ w a n cap zs) : Calls Try.prog 211 #[curV a n cap p inc] w (Says (.bool b) w) := by
  have HB := Lib.hid (below_box (w := w) (.cells #[.slice a n cap, .int .i64 p, .int .i64 inc] 24))
  have hrow := h.under (below_box (w := w) (.cells #[.slice a n cap, .int .i64 p, .int .i64 inc] 24))
  have hlen := h.len
  obtain ⟨j, hj⟩ : ∃ j, n = j + 1 := ⟨n - 1, by omega⟩
  obtain ⟨x, rfl, cl⟩ := hrow.cell j (by omega)
  obtain ⟨l, hl⟩ : ∃ l, zs.getD j 0 = l := ⟨_, rfl⟩
  rw [hl] at cl
  have hbl : b = true ↔ ¬ l = 4611686018427387904 := by rw [hb, infC7, hlen, show n - 1 = j by omega, hl]
  have hbe : (l != 4611686018427387904) = b := by
    cases b with
    | true => simpa using hbl.1 rfl
    | false =>
      have : l = 4611686018427387904 := Classical.byContradiction fun h => by have := hbl.2 h; cases this
      simp [this]
  have hbe2 : (l == 4611686018427387904) = !b := by rw [← hbe]; simp [bne]
  have q1 : (n : Int) - 1 = (j : Int) := by omega
  have q2 : (j : Int) < (n : Int) := by omega
  have q3 : j < n := by omega
  have q4 : IntKind.i64.wrap (j : Int) = (j : Int) := IntWalk.i64_in _ ⟨by omega, by omega⟩
  have k := Cur3.new w (.slice (some x) n cap) (.int .i64 p) (.int .i64 inc) 24
  obtain ⟨c0, c1, c2, c3, c4, c5⟩ := k
  clear hb hbl hl hj h hrow hlen
  go_enter Try.func211, Try.ntmps211
  go_wp2_with fail
  go_ret
  exact ⟨by first | rfl | simp [hbe] | simp [hbe2, bne], HB.out⟩

theorem grows7 (a : Option Addr) (n cap : Nat) (zs : List Int) (p : Nat) (inc : Int) (g : Good zs p inc) (L : Nat) (hL : L ≤ 120) (v : Int) (hv : inc * ((L / p : Nat) : Int) = v) (w : World) : Calls Try.prog 212 #[curV a n cap p inc, .int .i64 L] w (Says (.int .i64 v) w) := by
  have HB := Lib.hid (below_box (w := w) (.cells #[.slice a n cap, .int .i64 p, .int .i64 inc] 24))
  obtain ⟨c0, c1, c2, c3, c4, c5⟩ := Cur3.new w (.slice a n cap) (.int .i64 p) (.int .i64 inc) 24
  have hb := grow_bd g hL
  rw [hv] at hb
  obtain ⟨hb1, hb2⟩ := hb
  have p1 := g.p1
  obtain ⟨k, hk⟩ : ∃ k, L / p = k := ⟨_, rfl⟩
  rw [hk] at hv
  have kb : k ≤ 120 := by rw [← hk]; exact Nat.le_trans (Nat.div_le_self _ _) hL
  have kq : (L : Int).tdiv (p : Int) = (k : Int) := by rw [Int.tdiv_eq_ediv_of_nonneg (by omega), ← hk]; exact Int.natCast_ediv _ _
  have kz : ¬ (p : Int) = 0 := by omega
  have kn : ¬ p = 0 := by omega
  have kd : (L : Int) / (p : Int) = (k : Int) := by rw [← hk]; exact (Int.natCast_ediv _ _).symm
  have kw : IntKind.i64.wrap (k : Int) = (k : Int) := IntWalk.i64_in _ ⟨by omega, by omega⟩
  have vw : IntKind.i64.wrap (inc * (k : Int)) = v := by rw [hv]; exact IntWalk.i64_in _ ⟨by omega, by omega⟩
  have vw2 : IntKind.i64.wrap v = v := IntWalk.i64_in _ ⟨by omega, by omega⟩
  obtain ⟨W, hW⟩ : ∃ W, w.alloc (.cells #[.slice a n cap, .int .i64 p, .int .i64 inc] 24) = W := ⟨_, rfl⟩
  rw [hW] at c0 c1 c2 c3 c4 c5 HB
  go_enter Try.func212, Try.ntmps212
  go_upto_region 1 with fail
  try rw [hW]
  go_quiet (fail)
  go_wp2_with fail
  go_ret
  exact ⟨by first | rfl | (rw [hv]) | (simp [hv, vw]), HB.out.drewN _⟩

/-- Two curves in the call's first two boxes. -/
structure C2 (w : World) (a1 : Option Addr) (n1 cap1 : Nat) (z1 : List Int) (p1 : Nat) (i1 : Int) (a2 : Option Addr) (n2 cap2 : Nat) (z2 : List Int) (p2 : Nat) (i2 : Int) (u : World) : Prop where
  f : Bx u w.heap.size a1 n1 cap1 p1 i1 z1
  g : Bx u (w.heap.size + 1) a2 n2 cap2 p2 i2 z2
  below : Below w.heap.size w u
theorem C2.call {w u v : World} {a1 : Option Addr} {n1 cap1 : Nat} {z1 : List Int} {p1 : Nat} {i1 : Int} {a2 : Option Addr} {n2 cap2 : Nat} {z2 : List Int} {p2 : Nat} {i2 : Int} (k : C2 w a1 n1 cap1 z1 p1 i1 a2 n2 cap2 z2 p2 i2 u) (hb : Below u.heap.size u v) : C2 w a1 n1 cap1 z1 p1 i1 a2 n2 cap2 z2 p2 i2 v := ⟨k.f.under hb, k.g.under hb, k.below.trans (hb.mono k.below.size)⟩
theorem c2_new {w : World} {a1 : Option Addr} {n1 cap1 : Nat} {z1 : List Int} {p1 : Nat} {i1 : Int} {a2 : Option Addr} {n2 cap2 : Nat} {z2 : List Int} {p2 : Nat} {i2 : Int} (h1 : RowZ w a1 n1 cap1 z1) (h2 : RowZ w a2 n2 cap2 z2) {W : World} (hW : (w.alloc (.cells #[.slice a1 n1 cap1, .int .i64 p1, .int .i64 i1] 24)).alloc (.cells #[.slice a2 n2 cap2, .int .i64 p2, .int .i64 i2] 24) = W) : C2 w a1 n1 cap1 z1 p1 i1 a2 n2 cap2 z2 p2 i2 W := by
  subst hW
  have hB : Below w.heap.size w ((w.alloc (.cells #[.slice a1 n1 cap1, .int .i64 p1, .int .i64 i1] 24)).alloc (.cells #[.slice a2 n2 cap2, .int .i64 p2, .int .i64 i2] 24)) := ((Below.refl _ _).alloc (Nat.le_refl _) _).alloc (by simp) _
  exact ⟨⟨(Cur3.new w _ _ _ _).alloc _, h1.under hB⟩, ⟨Cur3.new2 w _ _ _ _ _, h2.under hB⟩, hB⟩
theorem addr07 (x : Addr) : x.add 0 = x := by unfold Addr.add; split <;> simp_all
/-- How much the convolution grows, and whether it is finite. -/
def SlopeIs (z1 : List Int) (p1 : Nat) (i1 : Int) (z2 : List Int) (p2 : Nat) (i2 : Int) (L : Nat) (q : Int) (fin : Bool) : Prop :=
  (convG z1 p1 i1 z2 p2 i2 L = infV ∧ q = 0 ∧ fin = false) ∨ (¬ convG z1 p1 i1 z2 p2 i2 L = infV ∧ q = convG z1 p1 i1 z2 p2 i2 L ∧ fin = true)

set_option maxRecDepth 100000 in
set_option maxHeartbeats 3200000 in
theorem slope7 (a1 : Option Addr) (n1 cap1 : Nat) (z1 : List Int) (p1 : Nat) (i1 : Int) (g1 : Good z1 p1 i1) (a2 : Option Addr) (n2 cap2 : Nat) (z2 : List Int) (p2 : Nat) (i2 : Int) (g2 : Good z2 p2 i2) (L : Nat) (hL : L ≤ 120) (q : Int) (fin : Bool) (hS : SlopeIs z1 p1 i1 z2 p2 i2 L q fin) (w : World) (h1 : RowZ w a1 n1 cap1 z1) (h2 : RowZ w a2 n2 cap2 z2) :
    Calls Try.prog 123 #[curV a1 n1 cap1 p1 i1, curV a2 n2 cap2 p2 i2, .int .i64 L] w (Says (.tuple #[.int .i64 q, .bool fin]) w) := by
  have HS := Lib.hid hS
  have B1 := Lib.hid (grow_bd g1 hL)
  have B2 := Lib.hid (grow_bd g2 hL)
  have Z1 := Lib.hid (show z1.getD 0 0 = atC z1 p1 i1 0 ∧ z2.getD 0 0 = atC z2 p2 i2 0 by
    have := g1.p1; have := g1.p3; have := g2.p1; have := g2.p3
    exact ⟨(atC_lt (by omega)).symm, (atC_lt (by omega)).symm⟩)
  have ZF := Lib.hid (show (¬ InfC z1 → ¬ atC z1 p1 i1 0 = infV) ∧ (¬ InfC z2 → ¬ atC z2 p2 i2 0 = infV) from ⟨fun h e => by
    have := (g1.bd h 0).2; rw [e] at this; unfold infV at this; omega, fun h e => by have := (g2.bd h 0).2; rw [e] at this; unfold infV at this; omega⟩)
  obtain ⟨x0, hx0⟩ : ∃ x, z1.getD 0 0 = x := ⟨_, rfl⟩
  obtain ⟨y0, hy0⟩ : ∃ y, z2.getD 0 0 = y := ⟨_, rfl⟩
  have HX := Lib.hid (And.intro hx0 hy0)
  obtain ⟨u1, hu1⟩ : ∃ v, i1 * ((L / p1 : Nat) : Int) = v := ⟨_, rfl⟩
  obtain ⟨u2, hu2⟩ : ∃ v, i2 * ((L / p2 : Nat) : Int) = v := ⟨_, rfl⟩
  have HU := Lib.hid (And.intro hu1 hu2)
  have HC := Lib.hid (show convG z1 p1 i1 z2 p2 i2 L = (if plI x0 y0 = infV then infV else min (growI z1 p1 i1 L) (growI z2 p2 i2 L)) by unfold convG; rw [← Z1.out.1, ← Z1.out.2, hx0, hy0])
  clear hS hx0 hy0 hu1 hu2
  obtain ⟨W, hW⟩ : ∃ W, (w.alloc (.cells #[.slice a1 n1 cap1, .int .i64 p1, .int .i64 i1] 24)).alloc (.cells #[.slice a2 n2 cap2, .int .i64 p2, .int .i64 i2] 24) = W := ⟨_, rfl⟩
  have T0 := Lib.hid (c2_new h1 h2 hW)
  have HG := Lib.hid (And.intro g1 g2)
  have L1 := Lib.hid (show 1 ≤ n1 ∧ n1 ≤ 100000 by have := h1.len; have := g1.p1; have := g1.p3; have := g1.few; omega)
  have L2 := Lib.hid (show 1 ≤ n2 ∧ n2 ≤ 100000 by have := h2.len; have := g2.p1; have := g2.p3; have := g2.few; omega)
  have HW := Lib.hid hW
  clear hW h1 h2 g1 g2
  go_enter Try.func123, Try.ntmps123
  go_upto_region 1 with fail
  try rw [HW.out]
  have X0 := Lib.hid (show x0 = infV ∨ (0 ≤ x0 ∧ x0 ≤ 1073741824) by
    have h := HG.out.1.val 0 (by have := HG.out.1.p1; have := HG.out.1.p3; omega)
    rw [HX.out.1] at h; exact h.symm)
  have Y0 := Lib.hid (show y0 = infV ∨ (0 ≤ y0 ∧ y0 ≤ 1073741824) by
    have h := HG.out.2.val 0 (by have := HG.out.2.p1; have := HG.out.2.p3; omega)
    rw [HX.out.2] at h; exact h.symm)
  by_cases e1 : InfC z1
  · by_cases e2 : InfC z2
    · obtain ⟨c0, c1, c2, c3, c4, c5⟩ := T0.out.f.box
      obtain ⟨d0, d1, d2, d3, d4, d5⟩ := T0.out.g.box
      go_wp2_with fail
      clear c0 c1 c2 c3 c4 c5 d0 d1 d2 d3 d4 d5
      refine (finite7 a1 n1 cap1 z1 p1 i1 L1.out.1 L1.out.2 false ⟨fun h => (by cases h), fun h => absurd e1 h⟩ _ T0.out.f.row).mono ?_
      rintro e w1 ⟨rfl, hb⟩
      have T1 := Lib.hid (T0.out.call hb)
      clear hb
      obtain ⟨c0, c1, c2, c3, c4, c5⟩ := T1.out.f.box
      obtain ⟨d0, d1, d2, d3, d4, d5⟩ := T1.out.g.box
      go_wp2_with fail
      clear c0 c1 c2 c3 c4 c5 d0 d1 d2 d3 d4 d5
      refine (finite7 a2 n2 cap2 z2 p2 i2 L2.out.1 L2.out.2 false ⟨fun h => (by cases h), fun h => absurd e2 h⟩ _ T1.out.g.row).mono ?_
      rintro e w2 ⟨rfl, hb⟩
      have T2 := Lib.hid (T1.out.call hb)
      clear hb
      obtain ⟨rfl, rfl⟩ : q = 0 ∧ fin = false := by
        rcases HS.out with ⟨_, h1, h2⟩ | ⟨h, _⟩
        · exact ⟨h1, h2⟩
        · exact absurd (by rw [HC.out, growI_inf e1, growI_inf e2]; split <;> first | rfl | omega) h
      go_wp2_with fail
      go_ret2
      exact ⟨rfl, T2.out.below⟩
    · have ey : ¬ y0 = 4611686018427387904 := by rw [← HX.out.2, Z1.out.2]; exact ZF.out.2 e2
      by_cases ex : x0 = 4611686018427387904
      · obtain ⟨c0, c1, c2, c3, c4, c5⟩ := T0.out.f.box
        obtain ⟨d0, d1, d2, d3, d4, d5⟩ := T0.out.g.box
        go_wp2_with fail
        clear c0 c1 c2 c3 c4 c5 d0 d1 d2 d3 d4 d5
        refine (finite7 a1 n1 cap1 z1 p1 i1 L1.out.1 L1.out.2 false ⟨fun h => (by cases h), fun h => absurd e1 h⟩ _ T0.out.f.row).mono ?_
        rintro e w3 ⟨rfl, hb⟩
        have T3 := Lib.hid (T0.out.call hb)
        clear hb
        obtain ⟨c0, c1, c2, c3, c4, c5⟩ := T3.out.f.box
        obtain ⟨d0, d1, d2, d3, d4, d5⟩ := T3.out.g.box
        go_wp2_with fail
        clear c0 c1 c2 c3 c4 c5 d0 d1 d2 d3 d4 d5
        refine (finite7 a2 n2 cap2 z2 p2 i2 L2.out.1 L2.out.2 true ⟨fun _ => e2, fun _ => rfl⟩ _ T3.out.g.row).mono ?_
        rintro e w4 ⟨rfl, hb⟩
        have T4 := Lib.hid (T3.out.call hb)
        clear hb
        obtain ⟨xf, rfl, cvf⟩ := T4.out.f.row.cell 0 (by have := L1.out.1; omega)
        rw [HX.out.1, addr07] at cvf
        have q0f : (0 : Int) < (n1 : Int) := by have := L1.out.1; omega
        have q1f : 0 < n1 := by have := L1.out.1; omega
        have tx : (x0 == 4611686018427387904) = true := by simpa using ex
        obtain ⟨rfl, rfl⟩ : q = 0 ∧ fin = false := by
          rcases HS.out with ⟨_, h1, h2⟩ | ⟨h, _⟩
          · exact ⟨h1, h2⟩
          · exact absurd (by rw [HC.out, if_pos (by rw [show x0 = infV from ex, plI_l])]) h
        obtain ⟨c0, c1, c2, c3, c4, c5⟩ := T4.out.f.box
        obtain ⟨d0, d1, d2, d3, d4, d5⟩ := T4.out.g.box
        go_wp2_with fail
        go_ret2
        exact ⟨rfl, T4.out.below⟩
      · obtain ⟨c0, c1, c2, c3, c4, c5⟩ := T0.out.f.box
        obtain ⟨d0, d1, d2, d3, d4, d5⟩ := T0.out.g.box
        go_wp2_with fail
        clear c0 c1 c2 c3 c4 c5 d0 d1 d2 d3 d4 d5
        refine (finite7 a1 n1 cap1 z1 p1 i1 L1.out.1 L1.out.2 false ⟨fun h => (by cases h), fun h => absurd e1 h⟩ _ T0.out.f.row).mono ?_
        rintro e w5 ⟨rfl, hb⟩
        have T5 := Lib.hid (T0.out.call hb)
        clear hb
        obtain ⟨c0, c1, c2, c3, c4, c5⟩ := T5.out.f.box
        obtain ⟨d0, d1, d2, d3, d4, d5⟩ := T5.out.g.box
        go_wp2_with fail
        clear c0 c1 c2 c3 c4 c5 d0 d1 d2 d3 d4 d5
        refine (finite7 a2 n2 cap2 z2 p2 i2 L2.out.1 L2.out.2 true ⟨fun _ => e2, fun _ => rfl⟩ _ T5.out.g.row).mono ?_
        rintro e w6 ⟨rfl, hb⟩
        have T6 := Lib.hid (T5.out.call hb)
        clear hb
        obtain ⟨xf, rfl, cvf⟩ := T6.out.f.row.cell 0 (by have := L1.out.1; omega)
        rw [HX.out.1, addr07] at cvf
        have q0f : (0 : Int) < (n1 : Int) := by have := L1.out.1; omega
        have q1f : 0 < n1 := by have := L1.out.1; omega
        obtain ⟨xg, rfl, cvg⟩ := T6.out.g.row.cell 0 (by have := L2.out.1; omega)
        rw [HX.out.2, addr07] at cvg
        have q0g : (0 : Int) < (n2 : Int) := by have := L2.out.1; omega
        have q1g : 0 < n2 := by have := L2.out.1; omega
        have tx : (x0 == 4611686018427387904) = false := by simpa using ex
        have ty : (y0 == 4611686018427387904) = false := by simpa using ey
        obtain ⟨rfl, rfl⟩ : q = u2 ∧ fin = true := by
          have e : convG z1 p1 i1 z2 p2 i2 L = u2 := by
            rw [HC.out, if_neg (by rw [plI_fin ex ey]; have := X0.out; have := Y0.out; unfold infV at *; omega), growI_inf e1, growI_fin e2, Int.mul_comm, HU.out.2]
            have := B2.out; rw [HU.out.2] at this; unfold infV; omega
          rcases HS.out with ⟨h, _⟩ | ⟨_, h1, h2⟩
          · rw [e] at h; have := B1.out; have := B2.out; have := HU.out; unfold infV at h; omega
          · exact ⟨h1.trans e, h2⟩
        obtain ⟨c0, c1, c2, c3, c4, c5⟩ := T6.out.f.box
        obtain ⟨d0, d1, d2, d3, d4, d5⟩ := T6.out.g.box
        go_wp2_with fail
        clear c0 c1 c2 c3 c4 c5 d0 d1 d2 d3 d4 d5
        refine (finite7 (some xf) n1 cap1 z1 p1 i1 L1.out.1 L1.out.2 false ⟨fun h => (by cases h), fun h => absurd e1 h⟩ _ T6.out.f.row).mono ?_
        rintro e w7 ⟨rfl, hb⟩
        have T7 := Lib.hid (T6.out.call hb)
        clear hb
        obtain ⟨c0, c1, c2, c3, c4, c5⟩ := T7.out.f.box
        obtain ⟨d0, d1, d2, d3, d4, d5⟩ := T7.out.g.box
        go_wp2_with fail
        clear c0 c1 c2 c3 c4 c5 d0 d1 d2 d3 d4 d5
        refine (grows7 (some xg) n2 cap2 z2 p2 i2 HG.out.2 L hL q HU.out.2 _).mono ?_
        rintro e w8 ⟨rfl, hb⟩
        have T8 := Lib.hid (T7.out.call hb)
        clear hb
        go_wp2_with fail
        go_ret2
        exact ⟨rfl, T8.out.below⟩
  · have ex : ¬ x0 = 4611686018427387904 := by rw [← HX.out.1, Z1.out.1]; exact ZF.out.1 e1
    by_cases e2 : InfC z2
    · by_cases ey : y0 = 4611686018427387904
      · obtain ⟨c0, c1, c2, c3, c4, c5⟩ := T0.out.f.box
        obtain ⟨d0, d1, d2, d3, d4, d5⟩ := T0.out.g.box
        go_wp2_with fail
        clear c0 c1 c2 c3 c4 c5 d0 d1 d2 d3 d4 d5
        refine (finite7 a1 n1 cap1 z1 p1 i1 L1.out.1 L1.out.2 true ⟨fun _ => e1, fun _ => rfl⟩ _ T0.out.f.row).mono ?_
        rintro e w9 ⟨rfl, hb⟩
        have T9 := Lib.hid (T0.out.call hb)
        clear hb
        obtain ⟨xf, rfl, cvf⟩ := T9.out.f.row.cell 0 (by have := L1.out.1; omega)
        rw [HX.out.1, addr07] at cvf
        have q0f : (0 : Int) < (n1 : Int) := by have := L1.out.1; omega
        have q1f : 0 < n1 := by have := L1.out.1; omega
        obtain ⟨xg, rfl, cvg⟩ := T9.out.g.row.cell 0 (by have := L2.out.1; omega)
        rw [HX.out.2, addr07] at cvg
        have q0g : (0 : Int) < (n2 : Int) := by have := L2.out.1; omega
        have q1g : 0 < n2 := by have := L2.out.1; omega
        have tx : (x0 == 4611686018427387904) = false := by simpa using ex
        have ty : (y0 == 4611686018427387904) = true := by simpa using ey
        obtain ⟨rfl, rfl⟩ : q = 0 ∧ fin = false := by
          rcases HS.out with ⟨_, h1, h2⟩ | ⟨h, _⟩
          · exact ⟨h1, h2⟩
          · exact absurd (by rw [HC.out, if_pos (by rw [show y0 = infV from ey, plI_r])]) h
        obtain ⟨c0, c1, c2, c3, c4, c5⟩ := T9.out.f.box
        obtain ⟨d0, d1, d2, d3, d4, d5⟩ := T9.out.g.box
        go_wp2_with fail
        go_ret2
        exact ⟨rfl, T9.out.below⟩
      · obtain ⟨c0, c1, c2, c3, c4, c5⟩ := T0.out.f.box
        obtain ⟨d0, d1, d2, d3, d4, d5⟩ := T0.out.g.box
        go_wp2_with fail
        clear c0 c1 c2 c3 c4 c5 d0 d1 d2 d3 d4 d5
        refine (finite7 a1 n1 cap1 z1 p1 i1 L1.out.1 L1.out.2 true ⟨fun _ => e1, fun _ => rfl⟩ _ T0.out.f.row).mono ?_
        rintro e w10 ⟨rfl, hb⟩
        have T10 := Lib.hid (T0.out.call hb)
        clear hb
        obtain ⟨xf, rfl, cvf⟩ := T10.out.f.row.cell 0 (by have := L1.out.1; omega)
        rw [HX.out.1, addr07] at cvf
        have q0f : (0 : Int) < (n1 : Int) := by have := L1.out.1; omega
        have q1f : 0 < n1 := by have := L1.out.1; omega
        obtain ⟨xg, rfl, cvg⟩ := T10.out.g.row.cell 0 (by have := L2.out.1; omega)
        rw [HX.out.2, addr07] at cvg
        have q0g : (0 : Int) < (n2 : Int) := by have := L2.out.1; omega
        have q1g : 0 < n2 := by have := L2.out.1; omega
        have tx : (x0 == 4611686018427387904) = false := by simpa using ex
        have ty : (y0 == 4611686018427387904) = false := by simpa using ey
        obtain ⟨rfl, rfl⟩ : q = u1 ∧ fin = true := by
          have e : convG z1 p1 i1 z2 p2 i2 L = u1 := by
            rw [HC.out, if_neg (by rw [plI_fin ex ey]; have := X0.out; have := Y0.out; unfold infV at *; omega), growI_inf e2, growI_fin e1, Int.mul_comm, HU.out.1]
            have := B1.out; rw [HU.out.1] at this; unfold infV; omega
          rcases HS.out with ⟨h, _⟩ | ⟨_, h1, h2⟩
          · rw [e] at h; have := B1.out; have := B2.out; have := HU.out; unfold infV at h; omega
          · exact ⟨h1.trans e, h2⟩
        obtain ⟨c0, c1, c2, c3, c4, c5⟩ := T10.out.f.box
        obtain ⟨d0, d1, d2, d3, d4, d5⟩ := T10.out.g.box
        go_wp2_with fail
        clear c0 c1 c2 c3 c4 c5 d0 d1 d2 d3 d4 d5
        refine (finite7 (some xf) n1 cap1 z1 p1 i1 L1.out.1 L1.out.2 true ⟨fun _ => e1, fun _ => rfl⟩ _ T10.out.f.row).mono ?_
        rintro e w11 ⟨rfl, hb⟩
        have T11 := Lib.hid (T10.out.call hb)
        clear hb
        obtain ⟨c0, c1, c2, c3, c4, c5⟩ := T11.out.f.box
        obtain ⟨d0, d1, d2, d3, d4, d5⟩ := T11.out.g.box
        go_wp2_with fail
        clear c0 c1 c2 c3 c4 c5 d0 d1 d2 d3 d4 d5
        refine (finite7 (some xg) n2 cap2 z2 p2 i2 L2.out.1 L2.out.2 false ⟨fun h => (by cases h), fun h => absurd e2 h⟩ _ T11.out.g.row).mono ?_
        rintro e w12 ⟨rfl, hb⟩
        have T12 := Lib.hid (T11.out.call hb)
        clear hb
        obtain ⟨c0, c1, c2, c3, c4, c5⟩ := T12.out.f.box
        obtain ⟨d0, d1, d2, d3, d4, d5⟩ := T12.out.g.box
        go_wp2_with fail
        clear c0 c1 c2 c3 c4 c5 d0 d1 d2 d3 d4 d5
        refine (grows7 (some xf) n1 cap1 z1 p1 i1 HG.out.1 L hL q HU.out.1 _).mono ?_
        rintro e w13 ⟨rfl, hb⟩
        have T13 := Lib.hid (T12.out.call hb)
        clear hb
        go_wp2_with fail
        go_ret2
        exact ⟨rfl, T13.out.below⟩
    · have ey : ¬ y0 = 4611686018427387904 := by rw [← HX.out.2, Z1.out.2]; exact ZF.out.2 e2
      obtain ⟨c0, c1, c2, c3, c4, c5⟩ := T0.out.f.box
      obtain ⟨d0, d1, d2, d3, d4, d5⟩ := T0.out.g.box
      go_wp2_with fail
      clear c0 c1 c2 c3 c4 c5 d0 d1 d2 d3 d4 d5
      refine (finite7 a1 n1 cap1 z1 p1 i1 L1.out.1 L1.out.2 true ⟨fun _ => e1, fun _ => rfl⟩ _ T0.out.f.row).mono ?_
      rintro e w14 ⟨rfl, hb⟩
      have T14 := Lib.hid (T0.out.call hb)
      clear hb
      obtain ⟨xf, rfl, cvf⟩ := T14.out.f.row.cell 0 (by have := L1.out.1; omega)
      rw [HX.out.1, addr07] at cvf
      have q0f : (0 : Int) < (n1 : Int) := by have := L1.out.1; omega
      have q1f : 0 < n1 := by have := L1.out.1; omega
      obtain ⟨xg, rfl, cvg⟩ := T14.out.g.row.cell 0 (by have := L2.out.1; omega)
      rw [HX.out.2, addr07] at cvg
      have q0g : (0 : Int) < (n2 : Int) := by have := L2.out.1; omega
      have q1g : 0 < n2 := by have := L2.out.1; omega
      have tx : (x0 == 4611686018427387904) = false := by simpa using ex
      have ty : (y0 == 4611686018427387904) = false := by simpa using ey
      obtain ⟨rfl, rfl⟩ : q = min u1 u2 ∧ fin = true := by
        have e : convG z1 p1 i1 z2 p2 i2 L = min u1 u2 := by
          rw [HC.out, if_neg (by rw [plI_fin ex ey]; have := X0.out; have := Y0.out; unfold infV at *; omega), growI_fin e1, growI_fin e2, Int.mul_comm _ i1, Int.mul_comm _ i2, HU.out.1, HU.out.2]
        rcases HS.out with ⟨h, _⟩ | ⟨_, h1, h2⟩
        · rw [e] at h; have := B1.out; have := B2.out; have := HU.out; unfold infV at h; omega
        · exact ⟨h1.trans e, h2⟩
      obtain ⟨c0, c1, c2, c3, c4, c5⟩ := T14.out.f.box
      obtain ⟨d0, d1, d2, d3, d4, d5⟩ := T14.out.g.box
      go_wp2_with fail
      clear c0 c1 c2 c3 c4 c5 d0 d1 d2 d3 d4 d5
      refine (finite7 (some xf) n1 cap1 z1 p1 i1 L1.out.1 L1.out.2 true ⟨fun _ => e1, fun _ => rfl⟩ _ T14.out.f.row).mono ?_
      rintro e w15 ⟨rfl, hb⟩
      have T15 := Lib.hid (T14.out.call hb)
      clear hb
      obtain ⟨c0, c1, c2, c3, c4, c5⟩ := T15.out.f.box
      obtain ⟨d0, d1, d2, d3, d4, d5⟩ := T15.out.g.box
      go_wp2_with fail
      clear c0 c1 c2 c3 c4 c5 d0 d1 d2 d3 d4 d5
      refine (finite7 (some xg) n2 cap2 z2 p2 i2 L2.out.1 L2.out.2 true ⟨fun _ => e2, fun _ => rfl⟩ _ T15.out.g.row).mono ?_
      rintro e w16 ⟨rfl, hb⟩
      have T16 := Lib.hid (T15.out.call hb)
      clear hb
      have Q0 := Lib.hid (T16.out.call (Below.refl _ _).drew)
      have KS := Lib.hid (show ∀ u, C2 w (some xf) n1 cap1 z1 p1 i1 (some xg) n2 cap2 z2 p2 i2 u → (u.cell? ⟨w.heap.size, 0, none⟩ = some (.slice (some xf) n1 cap1) ∧ u.cell? ⟨w.heap.size, 1, none⟩ = some (.int .i64 p1) ∧ u.cell? ⟨w.heap.size, 2, none⟩ = some (.int .i64 i1)) ∧ (u.cell? ⟨w.heap.size + 1, 0, none⟩ = some (.slice (some xg) n2 cap2) ∧ u.cell? ⟨w.heap.size + 1, 1, none⟩ = some (.int .i64 p2) ∧ u.cell? ⟨w.heap.size + 1, 2, none⟩ = some (.int .i64 i2)) ∧ Hid (C2 w (some xf) n1 cap1 z1 p1 i1 (some xg) n2 cap2 z2 p2 i2 u) from fun u h => ⟨⟨h.f.box.c0, h.f.box.c1, h.f.box.c2⟩, ⟨h.g.box.c0, h.g.box.c1, h.g.box.c2⟩, h⟩)
      go_upto_region 7 with fail
      refine wp_region_keeps (fun u => (u.cell? ⟨w.heap.size, 0, none⟩ = some (.slice (some xf) n1 cap1) ∧ u.cell? ⟨w.heap.size, 1, none⟩ = some (.int .i64 p1) ∧ u.cell? ⟨w.heap.size, 2, none⟩ = some (.int .i64 i1)) ∧ (u.cell? ⟨w.heap.size + 1, 0, none⟩ = some (.slice (some xg) n2 cap2) ∧ u.cell? ⟨w.heap.size + 1, 1, none⟩ = some (.int .i64 p2) ∧ u.cell? ⟨w.heap.size + 1, 2, none⟩ = some (.int .i64 i2)) ∧ Hid (C2 w (some xf) n1 cap1 z1 p1 i1 (some xg) n2 cap2 z2 p2 i2 u)) 6 3 (by kernel_rfl) (by kernel_rfl) (KS.out _ Q0.out) (fun hHeld0 => ?_)
      refine wpAnyK_take (i := 0) (v := ?_) rfl (by kernel_rfl) (fun _ _ _ h => h) (Or.inl ⟨by rfl, ?_⟩) (by assumption) ?_
      rotate_left
      · (intro w hSw; (try dsimp only at hSw); go_simp; try with_reducible rfl)
      try simp only [Act.put, List.getElem_toArray, List.getElem_cons_zero, List.getElem_cons_succ, List.setIfInBounds_toArray, List.set_cons_zero, List.set_cons_succ]
      refine wpAnyK_take (i := 1) (v := ?_) rfl (by kernel_rfl) (fun _ _ _ h => h) (Or.inl ⟨by rfl, ?_⟩) (by assumption) ?_
      rotate_left
      · (intro w hSw; (try dsimp only at hSw); go_simp; try with_reducible rfl)
      try simp only [Act.put, List.getElem_toArray, List.getElem_cons_zero, List.getElem_cons_succ, List.setIfInBounds_toArray, List.set_cons_zero, List.set_cons_succ]
      refine wpAnyK_take (i := 3) (v := ?_) rfl (by kernel_rfl) (fun _ _ _ h => h) (Or.inl ⟨by rfl, ?_⟩) (by assumption) ?_
      rotate_left
      · (intro w hSw; (try dsimp only at hSw); go_simp; try with_reducible rfl)
      try simp only [Act.put, List.getElem_toArray, List.getElem_cons_zero, List.getElem_cons_succ, List.setIfInBounds_toArray, List.set_cons_zero, List.set_cons_succ]
      refine wpAnyK_take (i := 4) (v := ?_) rfl (by kernel_rfl) (fun _ _ _ h => h) (Or.inl ⟨by rfl, ?_⟩) (by assumption) ?_
      rotate_left
      · (intro w hSw; (try dsimp only at hSw); go_simp; try with_reducible rfl)
      try simp only [Act.put, List.getElem_toArray, List.getElem_cons_zero, List.getElem_cons_succ, List.setIfInBounds_toArray, List.set_cons_zero, List.set_cons_succ]
      refine wpAnyK_step (i := 2) rfl (by kernel_rfl) (fun K hK => ?_)
      go_simp
      with_reducible refine (grows7 (some xf) n1 cap1 z1 p1 i1 HG.out.1 L hL u1 HU.out.1 _).mono ?_
      rintro e y1 ⟨rfl, hb⟩
      have Q1 := Lib.hid (Q0.out.call hb)
      clear hb
      refine hK.out _ _ (KS.out _ Q1.out) (fun hHeld1 => ?_)
      clear hK K hHeld0
      try simp only [Act.put, List.getElem_toArray, List.getElem_cons_zero, List.getElem_cons_succ, List.setIfInBounds_toArray, List.set_cons_zero, List.set_cons_succ]
      refine wpAnyK_step (i := 5) rfl (by kernel_rfl) (fun K hK => ?_)
      go_simp
      with_reducible refine (grows7 (some xg) n2 cap2 z2 p2 i2 HG.out.2 L hL u2 HU.out.2 _).mono ?_
      rintro e y2 ⟨rfl, hb⟩
      have Q2 := Lib.hid (Q1.out.call hb)
      clear hb
      refine hK.out _ _ (KS.out _ Q2.out) (fun hHeld2 => ?_)
      clear hK K hHeld1
      try simp only [Act.put, List.getElem_toArray, List.getElem_cons_zero, List.getElem_cons_succ, List.setIfInBounds_toArray, List.set_cons_zero, List.set_cons_succ]
      refine wpAnyK_done (by kernel_rfl) ?_
      simp only [List.drop_succ_cons, List.drop_zero]
      clear hHeld2
      rcases Int.lt_or_le u2 u1 with hlt | hle
      · have hle' : ¬ u1 ≤ u2 := by omega
        have em : min u1 u2 = u2 := by omega
        rw [em]
        go_wp2_with fail
        go_ret2
        exact ⟨rfl, Q2.out.below⟩
      · have hlt' : ¬ u2 < u1 := by omega
        have em : min u1 u2 = u1 := by omega
        rw [em]
        go_wp2_with fail
        go_ret2
        exact ⟨rfl, Q2.out.below⟩

/-- A tick that repeats. -/
def Rep7 (z1 : List Int) (p1 : Nat) (i1 : Int) (z2 : List Int) (p2 : Nat) (i2 : Int) (q : Int) (L t s : Nat) : Prop :=
  (¬ InfC z1 ∧ i1 * ((L / p1 : Nat) : Int) = q ∧ z1.length - p1 ≤ s) ∨ (¬ InfC z2 ∧ i2 * ((L / p2 : Nat) : Int) = q ∧ z2.length - p2 ≤ t - s)

set_option maxRecDepth 100000 in
set_option maxHeartbeats 3200000 in
theorem repeats7 (a1 : Option Addr) (n1 cap1 : Nat) (z1 : List Int) (p1 : Nat) (i1 : Int) (g1 : Good z1 p1 i1) (a2 : Option Addr) (n2 cap2 : Nat) (z2 : List Int) (p2 : Nat) (i2 : Int) (g2 : Good z2 p2 i2) (q : Int) (L t s : Nat) (hL : L ≤ 120) (hs : s ≤ t) (ht : t ≤ 100000) (b : Bool) (hb : b = true ↔ Rep7 z1 p1 i1 z2 p2 i2 q L t s) (w : World) (h1 : RowZ w a1 n1 cap1 z1) (h2 : RowZ w a2 n2 cap2 z2) :
    Calls Try.prog 214 #[curV a1 n1 cap1 p1 i1, curV a2 n2 cap2 p2 i2, .int .i64 q, .int .i64 L, .int .i64 t, .int .i64 s] w (Says (.bool b) w) := by
  have HBB := Lib.hid hb
  obtain ⟨u1, hu1⟩ : ∃ v, i1 * ((L / p1 : Nat) : Int) = v := ⟨_, rfl⟩
  obtain ⟨u2, hu2⟩ : ∃ v, i2 * ((L / p2 : Nat) : Int) = v := ⟨_, rfl⟩
  have HU := Lib.hid (And.intro hu1 hu2)
  obtain ⟨sa, hsa⟩ : ∃ v, n1 - p1 = v := ⟨_, rfl⟩
  obtain ⟨sb, hsb⟩ : ∃ v, n2 - p2 = v := ⟨_, rfl⟩
  have HSS := Lib.hid (show z1.length - p1 = sa ∧ z2.length - p2 = sb by rw [h1.len, h2.len]; exact ⟨hsa, hsb⟩)
  have HSN := Lib.hid (show (((n1 - p1 : Nat) : Int) = sa ∧ p1 ≤ n1) ∧ (((n2 - p2 : Nat) : Int) = sb ∧ p2 ≤ n2) by
    have := h1.len; have := h2.len; have := g1.p3; have := g2.p3; exact ⟨⟨by omega, by omega⟩, by omega, by omega⟩)
  have hts : (t : Int) - (s : Int) = ((t - s : Nat) : Int) := by omega
  obtain ⟨r, hr⟩ : ∃ r, t - s = r := ⟨_, rfl⟩
  rw [hr] at hts
  have hrw : IntKind.i64.wrap (r : Int) = (r : Int) := IntWalk.i64_in _ ⟨by omega, by omega⟩
  have HR := Lib.hid hr
  clear hb hu1 hu2 hsa hsb hr
  obtain ⟨W, hW⟩ : ∃ W, (w.alloc (.cells #[.slice a1 n1 cap1, .int .i64 p1, .int .i64 i1] 24)).alloc (.cells #[.slice a2 n2 cap2, .int .i64 p2, .int .i64 i2] 24) = W := ⟨_, rfl⟩
  have T0 := Lib.hid (c2_new h1 h2 hW)
  have HG := Lib.hid (And.intro g1 g2)
  have L1 := Lib.hid (show 1 ≤ n1 ∧ n1 ≤ 100000 by have := h1.len; have := g1.p1; have := g1.p3; have := g1.few; omega)
  have L2 := Lib.hid (show 1 ≤ n2 ∧ n2 ≤ 100000 by have := h2.len; have := g2.p1; have := g2.p3; have := g2.few; omega)
  have HW := Lib.hid hW
  clear hW h1 h2 g1 g2
  go_enter Try.func214, Try.ntmps214
  go_upto_region 1 with fail
  try rw [HW.out]
  by_cases e1 : InfC z1
  · obtain ⟨c0, c1, c2, c3, c4, c5⟩ := T0.out.f.box
    obtain ⟨d0, d1, d2, d3, d4, d5⟩ := T0.out.g.box
    go_wp2_with fail
    clear c0 c1 c2 c3 c4 c5 d0 d1 d2 d3 d4 d5
    refine (finite7 a1 n1 cap1 z1 p1 i1 L1.out.1 L1.out.2 false ⟨fun h => (by cases h), fun h => absurd e1 h⟩ _ T0.out.f.row).mono ?_
    rintro e w17 ⟨rfl, hb⟩
    have T17 := Lib.hid (T0.out.call hb)
    clear hb
    by_cases e2 : InfC z2
    · obtain ⟨c0, c1, c2, c3, c4, c5⟩ := T17.out.f.box
      obtain ⟨d0, d1, d2, d3, d4, d5⟩ := T17.out.g.box
      go_wp2_with fail
      clear c0 c1 c2 c3 c4 c5 d0 d1 d2 d3 d4 d5
      refine (finite7 a2 n2 cap2 z2 p2 i2 L2.out.1 L2.out.2 false ⟨fun h => (by cases h), fun h => absurd e2 h⟩ _ T17.out.g.row).mono ?_
      rintro e w18 ⟨rfl, hb⟩
      have T18 := Lib.hid (T17.out.call hb)
      clear hb
      obtain rfl : b = false := by
        cases b with
        | false => rfl
        | true =>
          exfalso
          rcases HBB.out.1 rfl with ⟨k1, k2, k3⟩ | ⟨k1, k2, k3⟩
          · rw [HSS.out.1] at k3; rw [HU.out.1] at k2; exact absurd e1 k1
          · rw [HSS.out.2, HR.out] at k3; rw [HU.out.2] at k2; exact absurd e2 k1
      go_wp2_with fail
      go_ret
      exact ⟨rfl, T18.out.below⟩
    · obtain ⟨c0, c1, c2, c3, c4, c5⟩ := T17.out.f.box
      obtain ⟨d0, d1, d2, d3, d4, d5⟩ := T17.out.g.box
      go_wp2_with fail
      clear c0 c1 c2 c3 c4 c5 d0 d1 d2 d3 d4 d5
      refine (finite7 a2 n2 cap2 z2 p2 i2 L2.out.1 L2.out.2 true ⟨fun _ => e2, fun _ => rfl⟩ _ T17.out.g.row).mono ?_
      rintro e w19 ⟨rfl, hb⟩
      have T19 := Lib.hid (T17.out.call hb)
      clear hb
      obtain ⟨c0, c1, c2, c3, c4, c5⟩ := T19.out.f.box
      obtain ⟨d0, d1, d2, d3, d4, d5⟩ := T19.out.g.box
      go_wp2_with fail
      clear c0 c1 c2 c3 c4 c5 d0 d1 d2 d3 d4 d5
      refine (grows7 a2 n2 cap2 z2 p2 i2 HG.out.2 L hL u2 HU.out.2 _).mono ?_
      rintro e w20 ⟨rfl, hb⟩
      have T20 := Lib.hid (T19.out.call hb)
      clear hb
      by_cases v2 : u2 = q
      rotate_left
      · have tv2 : (u2 == q) = false := by simpa using v2
        obtain rfl : b = false := by
          cases b with
          | false => rfl
          | true =>
            exfalso
            rcases HBB.out.1 rfl with ⟨k1, k2, k3⟩ | ⟨k1, k2, k3⟩
            · rw [HSS.out.1] at k3; rw [HU.out.1] at k2; exact absurd e1 k1
            · rw [HSS.out.2, HR.out] at k3; rw [HU.out.2] at k2; exact v2 k2
        go_wp2_with fail
        go_ret
        exact ⟨rfl, T20.out.below⟩
      have tv2 : (u2 == q) = true := by simpa using v2
      obtain ⟨c0, c1, c2, c3, c4, c5⟩ := T20.out.f.box
      obtain ⟨d0, d1, d2, d3, d4, d5⟩ := T20.out.g.box
      go_wp2_with fail
      clear c0 c1 c2 c3 c4 c5 d0 d1 d2 d3 d4 d5
      refine (start7 a2 n2 cap2 p2 i2 HSN.out.2.2 L2.out.2 sb HSN.out.2.1 _).mono ?_
      rintro e w21 ⟨rfl, hb⟩
      have T21 := Lib.hid (T20.out.call hb)
      clear hb
      by_cases o2 : sb ≤ r
      · have o2' : (sb : Int) ≤ (r : Int) := by omega
        have o2'' : decide (sb ≤ r) = true := decide_eq_true o2
        obtain rfl : b = true := by
          exact HBB.out.2 (.inr ⟨e2, by rw [HU.out.2]; exact v2, by rw [HSS.out.2, HR.out]; exact o2⟩)
        go_wp2_with fail
        go_ret
        exact ⟨rfl, T21.out.below⟩
      · have o2' : ¬ (sb : Int) ≤ (r : Int) := by omega
        have o2'' : decide (sb ≤ r) = false := decide_eq_false o2
        obtain rfl : b = false := by
          cases b with
          | false => rfl
          | true =>
            exfalso
            rcases HBB.out.1 rfl with ⟨k1, k2, k3⟩ | ⟨k1, k2, k3⟩
            · rw [HSS.out.1] at k3; rw [HU.out.1] at k2; exact absurd e1 k1
            · rw [HSS.out.2, HR.out] at k3; rw [HU.out.2] at k2; exact o2 k3
        go_wp2_with fail
        go_ret
        exact ⟨rfl, T21.out.below⟩
  · obtain ⟨c0, c1, c2, c3, c4, c5⟩ := T0.out.f.box
    obtain ⟨d0, d1, d2, d3, d4, d5⟩ := T0.out.g.box
    go_wp2_with fail
    clear c0 c1 c2 c3 c4 c5 d0 d1 d2 d3 d4 d5
    refine (finite7 a1 n1 cap1 z1 p1 i1 L1.out.1 L1.out.2 true ⟨fun _ => e1, fun _ => rfl⟩ _ T0.out.f.row).mono ?_
    rintro e w22 ⟨rfl, hb⟩
    have T22 := Lib.hid (T0.out.call hb)
    clear hb
    obtain ⟨c0, c1, c2, c3, c4, c5⟩ := T22.out.f.box
    obtain ⟨d0, d1, d2, d3, d4, d5⟩ := T22.out.g.box
    go_wp2_with fail
    clear c0 c1 c2 c3 c4 c5 d0 d1 d2 d3 d4 d5
    refine (grows7 a1 n1 cap1 z1 p1 i1 HG.out.1 L hL u1 HU.out.1 _).mono ?_
    rintro e w23 ⟨rfl, hb⟩
    have T23 := Lib.hid (T22.out.call hb)
    clear hb
    by_cases v1 : u1 = q
    rotate_left
    · have tv1 : (u1 == q) = false := by simpa using v1
      by_cases e2 : InfC z2
      · obtain ⟨c0, c1, c2, c3, c4, c5⟩ := T23.out.f.box
        obtain ⟨d0, d1, d2, d3, d4, d5⟩ := T23.out.g.box
        go_wp2_with fail
        clear c0 c1 c2 c3 c4 c5 d0 d1 d2 d3 d4 d5
        refine (finite7 a2 n2 cap2 z2 p2 i2 L2.out.1 L2.out.2 false ⟨fun h => (by cases h), fun h => absurd e2 h⟩ _ T23.out.g.row).mono ?_
        rintro e w24 ⟨rfl, hb⟩
        have T24 := Lib.hid (T23.out.call hb)
        clear hb
        obtain rfl : b = false := by
          cases b with
          | false => rfl
          | true =>
            exfalso
            rcases HBB.out.1 rfl with ⟨k1, k2, k3⟩ | ⟨k1, k2, k3⟩
            · rw [HSS.out.1] at k3; rw [HU.out.1] at k2; exact v1 k2
            · rw [HSS.out.2, HR.out] at k3; rw [HU.out.2] at k2; exact absurd e2 k1
        go_wp2_with fail
        go_ret
        exact ⟨rfl, T24.out.below⟩
      · obtain ⟨c0, c1, c2, c3, c4, c5⟩ := T23.out.f.box
        obtain ⟨d0, d1, d2, d3, d4, d5⟩ := T23.out.g.box
        go_wp2_with fail
        clear c0 c1 c2 c3 c4 c5 d0 d1 d2 d3 d4 d5
        refine (finite7 a2 n2 cap2 z2 p2 i2 L2.out.1 L2.out.2 true ⟨fun _ => e2, fun _ => rfl⟩ _ T23.out.g.row).mono ?_
        rintro e w25 ⟨rfl, hb⟩
        have T25 := Lib.hid (T23.out.call hb)
        clear hb
        obtain ⟨c0, c1, c2, c3, c4, c5⟩ := T25.out.f.box
        obtain ⟨d0, d1, d2, d3, d4, d5⟩ := T25.out.g.box
        go_wp2_with fail
        clear c0 c1 c2 c3 c4 c5 d0 d1 d2 d3 d4 d5
        refine (grows7 a2 n2 cap2 z2 p2 i2 HG.out.2 L hL u2 HU.out.2 _).mono ?_
        rintro e w26 ⟨rfl, hb⟩
        have T26 := Lib.hid (T25.out.call hb)
        clear hb
        by_cases v2 : u2 = q
        rotate_left
        · have tv2 : (u2 == q) = false := by simpa using v2
          obtain rfl : b = false := by
            cases b with
            | false => rfl
            | true =>
              exfalso
              rcases HBB.out.1 rfl with ⟨k1, k2, k3⟩ | ⟨k1, k2, k3⟩
              · rw [HSS.out.1] at k3; rw [HU.out.1] at k2; exact v1 k2
              · rw [HSS.out.2, HR.out] at k3; rw [HU.out.2] at k2; exact v2 k2
          go_wp2_with fail
          go_ret
          exact ⟨rfl, T26.out.below⟩
        have tv2 : (u2 == q) = true := by simpa using v2
        obtain ⟨c0, c1, c2, c3, c4, c5⟩ := T26.out.f.box
        obtain ⟨d0, d1, d2, d3, d4, d5⟩ := T26.out.g.box
        go_wp2_with fail
        clear c0 c1 c2 c3 c4 c5 d0 d1 d2 d3 d4 d5
        refine (start7 a2 n2 cap2 p2 i2 HSN.out.2.2 L2.out.2 sb HSN.out.2.1 _).mono ?_
        rintro e w27 ⟨rfl, hb⟩
        have T27 := Lib.hid (T26.out.call hb)
        clear hb
        by_cases o2 : sb ≤ r
        · have o2' : (sb : Int) ≤ (r : Int) := by omega
          have o2'' : decide (sb ≤ r) = true := decide_eq_true o2
          obtain rfl : b = true := by
            exact HBB.out.2 (.inr ⟨e2, by rw [HU.out.2]; exact v2, by rw [HSS.out.2, HR.out]; exact o2⟩)
          go_wp2_with fail
          go_ret
          exact ⟨rfl, T27.out.below⟩
        · have o2' : ¬ (sb : Int) ≤ (r : Int) := by omega
          have o2'' : decide (sb ≤ r) = false := decide_eq_false o2
          obtain rfl : b = false := by
            cases b with
            | false => rfl
            | true =>
              exfalso
              rcases HBB.out.1 rfl with ⟨k1, k2, k3⟩ | ⟨k1, k2, k3⟩
              · rw [HSS.out.1] at k3; rw [HU.out.1] at k2; exact v1 k2
              · rw [HSS.out.2, HR.out] at k3; rw [HU.out.2] at k2; exact o2 k3
          go_wp2_with fail
          go_ret
          exact ⟨rfl, T27.out.below⟩
    have tv1 : (u1 == q) = true := by simpa using v1
    obtain ⟨c0, c1, c2, c3, c4, c5⟩ := T23.out.f.box
    obtain ⟨d0, d1, d2, d3, d4, d5⟩ := T23.out.g.box
    go_wp2_with fail
    clear c0 c1 c2 c3 c4 c5 d0 d1 d2 d3 d4 d5
    refine (start7 a1 n1 cap1 p1 i1 HSN.out.1.2 L1.out.2 sa HSN.out.1.1 _).mono ?_
    rintro e w28 ⟨rfl, hb⟩
    have T28 := Lib.hid (T23.out.call hb)
    clear hb
    by_cases o1 : sa ≤ s
    rotate_left
    · have o1' : ¬ (sa : Int) ≤ (s : Int) := by omega
      have o1'' : decide (sa ≤ s) = false := decide_eq_false o1
      by_cases e2 : InfC z2
      · obtain ⟨c0, c1, c2, c3, c4, c5⟩ := T28.out.f.box
        obtain ⟨d0, d1, d2, d3, d4, d5⟩ := T28.out.g.box
        go_wp2_with fail
        clear c0 c1 c2 c3 c4 c5 d0 d1 d2 d3 d4 d5
        refine (finite7 a2 n2 cap2 z2 p2 i2 L2.out.1 L2.out.2 false ⟨fun h => (by cases h), fun h => absurd e2 h⟩ _ T28.out.g.row).mono ?_
        rintro e w29 ⟨rfl, hb⟩
        have T29 := Lib.hid (T28.out.call hb)
        clear hb
        obtain rfl : b = false := by
          cases b with
          | false => rfl
          | true =>
            exfalso
            rcases HBB.out.1 rfl with ⟨k1, k2, k3⟩ | ⟨k1, k2, k3⟩
            · rw [HSS.out.1] at k3; rw [HU.out.1] at k2; exact o1 k3
            · rw [HSS.out.2, HR.out] at k3; rw [HU.out.2] at k2; exact absurd e2 k1
        go_wp2_with fail
        go_ret
        exact ⟨rfl, T29.out.below⟩
      · obtain ⟨c0, c1, c2, c3, c4, c5⟩ := T28.out.f.box
        obtain ⟨d0, d1, d2, d3, d4, d5⟩ := T28.out.g.box
        go_wp2_with fail
        clear c0 c1 c2 c3 c4 c5 d0 d1 d2 d3 d4 d5
        refine (finite7 a2 n2 cap2 z2 p2 i2 L2.out.1 L2.out.2 true ⟨fun _ => e2, fun _ => rfl⟩ _ T28.out.g.row).mono ?_
        rintro e w30 ⟨rfl, hb⟩
        have T30 := Lib.hid (T28.out.call hb)
        clear hb
        obtain ⟨c0, c1, c2, c3, c4, c5⟩ := T30.out.f.box
        obtain ⟨d0, d1, d2, d3, d4, d5⟩ := T30.out.g.box
        go_wp2_with fail
        clear c0 c1 c2 c3 c4 c5 d0 d1 d2 d3 d4 d5
        refine (grows7 a2 n2 cap2 z2 p2 i2 HG.out.2 L hL u2 HU.out.2 _).mono ?_
        rintro e w31 ⟨rfl, hb⟩
        have T31 := Lib.hid (T30.out.call hb)
        clear hb
        by_cases v2 : u2 = q
        rotate_left
        · have tv2 : (u2 == q) = false := by simpa using v2
          obtain rfl : b = false := by
            cases b with
            | false => rfl
            | true =>
              exfalso
              rcases HBB.out.1 rfl with ⟨k1, k2, k3⟩ | ⟨k1, k2, k3⟩
              · rw [HSS.out.1] at k3; rw [HU.out.1] at k2; exact o1 k3
              · rw [HSS.out.2, HR.out] at k3; rw [HU.out.2] at k2; exact v2 k2
          go_wp2_with fail
          go_ret
          exact ⟨rfl, T31.out.below⟩
        have tv2 : (u2 == q) = true := by simpa using v2
        obtain ⟨c0, c1, c2, c3, c4, c5⟩ := T31.out.f.box
        obtain ⟨d0, d1, d2, d3, d4, d5⟩ := T31.out.g.box
        go_wp2_with fail
        clear c0 c1 c2 c3 c4 c5 d0 d1 d2 d3 d4 d5
        refine (start7 a2 n2 cap2 p2 i2 HSN.out.2.2 L2.out.2 sb HSN.out.2.1 _).mono ?_
        rintro e w32 ⟨rfl, hb⟩
        have T32 := Lib.hid (T31.out.call hb)
        clear hb
        by_cases o2 : sb ≤ r
        · have o2' : (sb : Int) ≤ (r : Int) := by omega
          have o2'' : decide (sb ≤ r) = true := decide_eq_true o2
          obtain rfl : b = true := by
            exact HBB.out.2 (.inr ⟨e2, by rw [HU.out.2]; exact v2, by rw [HSS.out.2, HR.out]; exact o2⟩)
          go_wp2_with fail
          go_ret
          exact ⟨rfl, T32.out.below⟩
        · have o2' : ¬ (sb : Int) ≤ (r : Int) := by omega
          have o2'' : decide (sb ≤ r) = false := decide_eq_false o2
          obtain rfl : b = false := by
            cases b with
            | false => rfl
            | true =>
              exfalso
              rcases HBB.out.1 rfl with ⟨k1, k2, k3⟩ | ⟨k1, k2, k3⟩
              · rw [HSS.out.1] at k3; rw [HU.out.1] at k2; exact o1 k3
              · rw [HSS.out.2, HR.out] at k3; rw [HU.out.2] at k2; exact o2 k3
          go_wp2_with fail
          go_ret
          exact ⟨rfl, T32.out.below⟩
    have o1' : (sa : Int) ≤ (s : Int) := by omega
    have o1'' : decide (sa ≤ s) = true := decide_eq_true o1
    obtain rfl : b = true := by
      exact HBB.out.2 (.inl ⟨e1, by rw [HU.out.1]; exact v1, by rw [HSS.out.1]; exact o1⟩)
    go_wp2_with fail
    go_ret
    exact ⟨rfl, T28.out.below⟩

end Go.Proofs.Ythljhddnfflpjaa

namespace Go.Proofs.Ythljhddnfflpjaa
open Go.RowKit
set_option linter.unusedSimpArgs false
set_option linter.unusedVariables false

set_option maxRecDepth 100000 in
set_option maxHeartbeats 3200000 in
theorem least7 (a1 : Option Addr) (n1 cap1 : Nat) (z1 : List Int) (p1 : Nat) (i1 : Int) (g1 : Good z1 p1 i1) (a2 : Option Addr) (n2 cap2 : Nat) (z2 : List Int) (p2 : Nat) (i2 : Int) (g2 : Good z2 p2 i2) (t : Nat) (ht : t ≤ 2000) (v : Int) (hv : encF (eConv z1 p1 i1 z2 p2 i2) t = v) (w : World) (h1 : RowZ w a1 n1 cap1 z1) (h2 : RowZ w a2 n2 cap2 z2) :
    Calls Try.prog 208 #[curV a1 n1 cap1 p1 i1, curV a2 n2 cap2 p2 i2, .int .i64 t] w (Says (.int .i64 v) w) := by
  have HV := Lib.hid hv
  clear hv
  obtain ⟨W, hW⟩ : ∃ W, (w.alloc (.cells #[.slice a1 n1 cap1, .int .i64 p1, .int .i64 i1] 24)).alloc (.cells #[.slice a2 n2 cap2, .int .i64 p2, .int .i64 i2] 24) = W := ⟨_, rfl⟩
  have T0 := Lib.hid (c2_new h1 h2 hW)
  have HG := Lib.hid (And.intro g1 g2)
  have L1 := Lib.hid (show 1 ≤ n1 ∧ n1 ≤ 100000 by have := h1.len; have := g1.p1; have := g1.p3; have := g1.few; omega)
  have L2 := Lib.hid (show 1 ≤ n2 ∧ n2 ≤ 100000 by have := h2.len; have := g2.p1; have := g2.p3; have := g2.few; omega)
  have HW := Lib.hid hW
  clear hW h1 h2 g1 g2
  go_enter Try.func208, Try.ntmps208
  go_upto_region 1 with fail
  try rw [HW.out]
  go_wp2_with fail
  have KS := Lib.hid (show ∀ u, C2 w a1 n1 cap1 z1 p1 i1 a2 n2 cap2 z2 p2 i2 u → (u.cell? ⟨w.heap.size, 0, none⟩ = some (.slice a1 n1 cap1) ∧ u.cell? ⟨w.heap.size, 1, none⟩ = some (.int .i64 p1) ∧ u.cell? ⟨w.heap.size, 2, none⟩ = some (.int .i64 i1)) ∧ (u.cell? ⟨w.heap.size + 1, 0, none⟩ = some (.slice a2 n2 cap2) ∧ u.cell? ⟨w.heap.size + 1, 1, none⟩ = some (.int .i64 p2) ∧ u.cell? ⟨w.heap.size + 1, 2, none⟩ = some (.int .i64 i2)) ∧ Hid (C2 w a1 n1 cap1 z1 p1 i1 a2 n2 cap2 z2 p2 i2 u) from fun u h => ⟨⟨h.f.box.c0, h.f.box.c1, h.f.box.c2⟩, ⟨h.g.box.c0, h.g.box.c1, h.g.box.c2⟩, h⟩)
  go_loopw [7, 8] (fun s7 s8 wx => ∃ k : Nat, s7 = .int .i64 (enc (convTo (eC z1 p1 i1) (eC z2 p2 i2) t k)) ∧ s8 = .int .i64 k ∧ k ≤ t + 1 ∧ Hid (C2 w a1 n1 cap1 z1 p1 i1 a2 n2 cap2 z2 p2 i2 wx)) (fun _ s8 _ => t + 1 - (intOf s8).toNat)
  case atStart => exact ⟨0, rfl, by go_num, by omega, T0⟩
  case round =>
    clear T0
    obtain ⟨k, rfl, rfl, hk, T1⟩ := hrel
    obtain ⟨wk, rfl⟩ : ∃ u : World, u = wr := ⟨_, rfl⟩
    by_cases hlt : k ≤ t
    · have hlt' : (k : Int) ≤ (t : Int) := by omega
      obtain ⟨vx, hvx⟩ : ∃ v, atC z1 p1 i1 k = v := ⟨_, rfl⟩
      obtain ⟨vy, hvy⟩ : ∃ v, atC z2 p2 i2 (t - k) = v := ⟨_, rfl⟩
      obtain ⟨vp, hvp⟩ : ∃ v, plI vx vy = v := ⟨_, rfl⟩
      obtain ⟨c, hc⟩ : ∃ c, enc (convTo (eC z1 p1 i1) (eC z2 p2 i2) t k) = c := ⟨_, rfl⟩
      have HST := Lib.hid (show enc (convTo (eC z1 p1 i1) (eC z2 p2 i2) t (k + 1)) = min c vp by
        rw [← hvp, ← hvx, ← hvy, ← hc]; exact conv_step HG.out.1 HG.out.2 (by omega) hlt)
      have MX := Lib.hid (show Mid vx ∧ Mid vy by rw [← hvx, ← hvy]; exact ⟨at_mid2 HG.out.1 (by omega), at_mid2 HG.out.2 (by omega)⟩)
      have HVV := Lib.hid (And.intro hvx (And.intro hvy hvp))
      rw [hc]
      obtain ⟨r, hr⟩ : ∃ r, t - k = r := ⟨_, rfl⟩
      have hri : (t : Int) - (k : Int) = (r : Int) := by omega
      have hrw : IntKind.i64.wrap (r : Int) = (r : Int) := IntWalk.i64_in _ ⟨by omega, by omega⟩
      have hrb : r ≤ 2000 := by omega
      rw [hr] at HVV
      have Q0 := Lib.hid (T1.out.call (Below.refl _ _).drew)
      clear hvx hvy hvp hc hr
      go_upto_region 5 with fail
      refine wp_region_keeps (fun u => (u.cell? ⟨w.heap.size, 0, none⟩ = some (.slice a1 n1 cap1) ∧ u.cell? ⟨w.heap.size, 1, none⟩ = some (.int .i64 p1) ∧ u.cell? ⟨w.heap.size, 2, none⟩ = some (.int .i64 i1)) ∧ (u.cell? ⟨w.heap.size + 1, 0, none⟩ = some (.slice a2 n2 cap2) ∧ u.cell? ⟨w.heap.size + 1, 1, none⟩ = some (.int .i64 p2) ∧ u.cell? ⟨w.heap.size + 1, 2, none⟩ = some (.int .i64 i2)) ∧ Hid (C2 w a1 n1 cap1 z1 p1 i1 a2 n2 cap2 z2 p2 i2 u)) 10 2 (by kernel_rfl) (by kernel_rfl) (KS.out _ Q0.out) (fun hHeld0 => ?_)
      refine wpAnyK_take (i := 0) (v := ?_) rfl (by kernel_rfl) (fun _ _ _ h => h) (Or.inl ⟨by rfl, ?_⟩) (by assumption) ?_
      rotate_left
      · (intro w hSw; (try dsimp only at hSw); go_simp; try with_reducible rfl)
      try simp only [Act.put, List.getElem_toArray, List.getElem_cons_zero, List.getElem_cons_succ, List.setIfInBounds_toArray, List.set_cons_zero, List.set_cons_succ]
      refine wpAnyK_take (i := 1) (v := ?_) rfl (by kernel_rfl) (fun _ _ _ h => h) (Or.inl ⟨by rfl, ?_⟩) (by assumption) ?_
      rotate_left
      · (intro w hSw; (try dsimp only at hSw); go_simp; try with_reducible rfl)
      try simp only [Act.put, List.getElem_toArray, List.getElem_cons_zero, List.getElem_cons_succ, List.setIfInBounds_toArray, List.set_cons_zero, List.set_cons_succ]
      refine wpAnyK_take (i := 2) (v := ?_) rfl (by kernel_rfl) (fun _ _ _ h => h) (Or.inl ⟨by rfl, ?_⟩) (by assumption) ?_
      rotate_left
      · (intro w hSw; (try dsimp only at hSw); go_simp; try with_reducible rfl)
      try simp only [Act.put, List.getElem_toArray, List.getElem_cons_zero, List.getElem_cons_succ, List.setIfInBounds_toArray, List.set_cons_zero, List.set_cons_succ]
      refine wpAnyK_take (i := 4) (v := ?_) rfl (by kernel_rfl) (fun _ _ _ h => h) (Or.inl ⟨by rfl, ?_⟩) (by assumption) ?_
      rotate_left
      · (intro w hSw; (try dsimp only at hSw); go_simp; try with_reducible rfl)
      try simp only [Act.put, List.getElem_toArray, List.getElem_cons_zero, List.getElem_cons_succ, List.setIfInBounds_toArray, List.set_cons_zero, List.set_cons_succ]
      refine wpAnyK_take (i := 5) (v := ?_) rfl (by kernel_rfl) (fun _ _ _ h => h) (Or.inl ⟨by rfl, ?_⟩) (by assumption) ?_
      rotate_left
      · (intro w hSw; (try dsimp only at hSw); go_simp; try with_reducible rfl)
      try simp only [Act.put, List.getElem_toArray, List.getElem_cons_zero, List.getElem_cons_succ, List.setIfInBounds_toArray, List.set_cons_zero, List.set_cons_succ]
      refine wpAnyK_take (i := 6) (v := ?_) rfl (by kernel_rfl) (fun _ _ _ h => h) (Or.inl ⟨by rfl, ?_⟩) (by assumption) ?_
      rotate_left
      · (intro w hSw; (try dsimp only at hSw); go_simp; try with_reducible rfl)
      try simp only [Act.put, List.getElem_toArray, List.getElem_cons_zero, List.getElem_cons_succ, List.setIfInBounds_toArray, List.set_cons_zero, List.set_cons_succ]
      refine wpAnyK_take (i := 7) (v := ?_) rfl (by kernel_rfl) (fun _ _ _ h => h) (Or.inl ⟨by rfl, ?_⟩) (by assumption) ?_
      rotate_left
      · (intro w hSw; (try dsimp only at hSw); go_simp; try with_reducible rfl)
      try simp only [Act.put, List.getElem_toArray, List.getElem_cons_zero, List.getElem_cons_succ, List.setIfInBounds_toArray, List.set_cons_zero, List.set_cons_succ]
      refine wpAnyK_step (i := 3) rfl (by kernel_rfl) (fun K hK => ?_)
      go_simp
      with_reducible refine (rat_at a1 n1 cap1 z1 p1 i1 HG.out.1 k k rfl (by omega) vx HVV.out.1 _ Q0.out.f.row).mono ?_
      rintro e y1 ⟨rfl, hb⟩
      have Q1 := Lib.hid (Q0.out.call hb)
      clear hb
      refine hK.out _ _ (KS.out _ Q1.out) (fun hHeld1 => ?_)
      clear hK K hHeld0
      try simp only [Act.put, List.getElem_toArray, List.getElem_cons_zero, List.getElem_cons_succ, List.setIfInBounds_toArray, List.set_cons_zero, List.set_cons_succ]
      refine wpAnyK_step (i := 8) rfl (by kernel_rfl) (fun K hK => ?_)
      go_simp
      with_reducible refine (rat_at a2 n2 cap2 z2 p2 i2 HG.out.2 r r rfl (by omega) vy HVV.out.2.1 _ Q1.out.g.row).mono ?_
      rintro e y2 ⟨rfl, hb⟩
      have Q2 := Lib.hid (Q1.out.call hb)
      clear hb
      refine hK.out _ _ (KS.out _ Q2.out) (fun hHeld2 => ?_)
      clear hK K hHeld1
      try simp only [Act.put, List.getElem_toArray, List.getElem_cons_zero, List.getElem_cons_succ, List.setIfInBounds_toArray, List.set_cons_zero, List.set_cons_succ]
      refine wpAnyK_step (i := 9) rfl (by kernel_rfl) (fun K hK => ?_)
      go_simp
      with_reducible refine (plus7 vx vy MX.out.1 MX.out.2 vp HVV.out.2.2 _).mono ?_
      rintro e y3 ⟨rfl, rfl⟩

      refine hK.out _ _ (KS.out _ Q2.out) (fun hHeld3 => ?_)
      clear hK K hHeld2
      try simp only [Act.put, List.getElem_toArray, List.getElem_cons_zero, List.getElem_cons_succ, List.setIfInBounds_toArray, List.set_cons_zero, List.set_cons_succ]
      refine wpAnyK_done (by kernel_rfl) ?_
      simp only [List.drop_succ_cons, List.drop_zero]
      clear hHeld3
      rcases Int.lt_or_le vp c with hm | hm
      · have hm' : ¬ c ≤ vp := by omega
        have em : min c vp = vp := by omega
        rw [em] at HST
        go_wp2_with fail
        go_roundw
        case rel => exact ⟨k + 1, by rw [HST.out], by go_num, by omega, Q2⟩
        case measure => simp [intOf]; omega
      · have hm' : ¬ vp < c := by omega
        have em : min c vp = c := by omega
        rw [em] at HST
        go_wp2_with fail
        go_roundw
        case rel => exact ⟨k + 1, by rw [HST.out], by go_num, by omega, Q2⟩
        case measure => simp [intOf]; omega
    · obtain rfl : k = t + 1 := by omega
      have hlt' : ¬ ((t + 1 : Nat) : Int) ≤ (t : Int) := by omega
      have e : enc (convTo (eC z1 p1 i1) (eC z2 p2 i2) t (t + 1)) = v := HV.out
      rw [e]
      go_wp2_with fail
      go_ret
      exact ⟨rfl, T1.out.below⟩

/-- A tick attains a value, and repeats if it must. -/
def Att7 (z1 : List Int) (p1 : Nat) (i1 : Int) (z2 : List Int) (p2 : Nat) (i2 : Int) (v q : Int) (L t : Nat) (must : Bool) (s : Nat) : Prop :=
  plI (atC z1 p1 i1 s) (atC z2 p2 i2 (t - s)) = v ∧ (must = false ∨ v = infV ∨ Rep7 z1 p1 i1 z2 p2 i2 q L t s)
def GivesSplit (z1 : List Int) (p1 : Nat) (i1 : Int) (z2 : List Int) (p2 : Nat) (i2 : Int) (v q : Int) (L t : Nat) (must : Bool) (w : World) (e : Ending) (w' : World) : Prop :=
  ∃ r : Int, e = .returned (.int .i64 r) ∧ Below w.heap.size w w' ∧ ((r = -1 ∧ ∀ s, s ≤ t → ¬ Att7 z1 p1 i1 z2 p2 i2 v q L t must s) ∨ ∃ s : Nat, r = s ∧ s ≤ t ∧ Att7 z1 p1 i1 z2 p2 i2 v q L t must s ∧ ∀ s', s' < s → ¬ Att7 z1 p1 i1 z2 p2 i2 v q L t must s')

set_option maxRecDepth 100000 in
set_option maxHeartbeats 6400000 in
theorem split7 (a1 : Option Addr) (n1 cap1 : Nat) (z1 : List Int) (p1 : Nat) (i1 : Int) (g1 : Good z1 p1 i1) (a2 : Option Addr) (n2 cap2 : Nat) (z2 : List Int) (p2 : Nat) (i2 : Int) (g2 : Good z2 p2 i2) (v q : Int) (L t : Nat) (must : Bool) (hL : L ≤ 120) (ht : t ≤ 2000) (w : World) (h1 : RowZ w a1 n1 cap1 z1) (h2 : RowZ w a2 n2 cap2 z2) :
    Calls Try.prog 125 #[curV a1 n1 cap1 p1 i1, curV a2 n2 cap2 p2 i2, .int .i64 v, .int .i64 q, .int .i64 L, .int .i64 t, .bool must] w (GivesSplit z1 p1 i1 z2 p2 i2 v q L t must w) := by
  obtain ⟨W, hW⟩ : ∃ W, (w.alloc (.cells #[.slice a1 n1 cap1, .int .i64 p1, .int .i64 i1] 24)).alloc (.cells #[.slice a2 n2 cap2, .int .i64 p2, .int .i64 i2] 24) = W := ⟨_, rfl⟩
  have T0 := Lib.hid (c2_new h1 h2 hW)
  have HG := Lib.hid (And.intro g1 g2)
  have L1 := Lib.hid (show 1 ≤ n1 ∧ n1 ≤ 100000 by have := h1.len; have := g1.p1; have := g1.p3; have := g1.few; omega)
  have L2 := Lib.hid (show 1 ≤ n2 ∧ n2 ≤ 100000 by have := h2.len; have := g2.p1; have := g2.p3; have := g2.few; omega)
  have HW := Lib.hid hW
  clear hW h1 h2 g1 g2
  go_enter Try.func125, Try.ntmps125
  go_upto_region 1 with fail
  try rw [HW.out]
  go_wp2_with fail
  have KS := Lib.hid (show ∀ u, C2 w a1 n1 cap1 z1 p1 i1 a2 n2 cap2 z2 p2 i2 u → (u.cell? ⟨w.heap.size, 0, none⟩ = some (.slice a1 n1 cap1) ∧ u.cell? ⟨w.heap.size, 1, none⟩ = some (.int .i64 p1) ∧ u.cell? ⟨w.heap.size, 2, none⟩ = some (.int .i64 i1)) ∧ (u.cell? ⟨w.heap.size + 1, 0, none⟩ = some (.slice a2 n2 cap2) ∧ u.cell? ⟨w.heap.size + 1, 1, none⟩ = some (.int .i64 p2) ∧ u.cell? ⟨w.heap.size + 1, 2, none⟩ = some (.int .i64 i2)) ∧ Hid (C2 w a1 n1 cap1 z1 p1 i1 a2 n2 cap2 z2 p2 i2 u) from fun u h => ⟨⟨h.f.box.c0, h.f.box.c1, h.f.box.c2⟩, ⟨h.g.box.c0, h.g.box.c1, h.g.box.c2⟩, h⟩)
  go_loopw [15] (fun s15 wx => ∃ k : Nat, s15 = .int .i64 k ∧ k ≤ t + 1 ∧ Hid (∀ s, s < k → ¬ Att7 z1 p1 i1 z2 p2 i2 v q L t must s) ∧ Hid (C2 w a1 n1 cap1 z1 p1 i1 a2 n2 cap2 z2 p2 i2 wx)) (fun s15 _ => t + 1 - (intOf s15).toNat)
  case atStart => exact ⟨0, by go_num, by omega, fun s hs => absurd hs (Nat.not_lt_zero s), T0⟩
  case round =>
    clear T0
    obtain ⟨k, rfl, hk, HNO, T1⟩ := hrel
    obtain ⟨wk, rfl⟩ : ∃ u : World, u = wr := ⟨_, rfl⟩
    by_cases hlt : k ≤ t
    · have hlt' : (k : Int) ≤ (t : Int) := by omega
      obtain ⟨vx, hvx⟩ : ∃ v, atC z1 p1 i1 k = v := ⟨_, rfl⟩
      obtain ⟨vy, hvy⟩ : ∃ v, atC z2 p2 i2 (t - k) = v := ⟨_, rfl⟩
      obtain ⟨vp, hvp⟩ : ∃ v, plI vx vy = v := ⟨_, rfl⟩
      have HAT := Lib.hid (show Att7 z1 p1 i1 z2 p2 i2 v q L t must k ↔ vp = v ∧ (must = false ∨ v = infV ∨ Rep7 z1 p1 i1 z2 p2 i2 q L t k) by
        unfold Att7; rw [hvx, hvy, hvp])
      have MX := Lib.hid (show Mid vx ∧ Mid vy by rw [← hvx, ← hvy]; exact ⟨at_mid2 HG.out.1 (by omega), at_mid2 HG.out.2 (by omega)⟩)
      have HVV := Lib.hid (And.intro hvx (And.intro hvy hvp))
      obtain ⟨r, hr⟩ : ∃ r, t - k = r := ⟨_, rfl⟩
      have hri : (t : Int) - (k : Int) = (r : Int) := by omega
      have hrw : IntKind.i64.wrap (r : Int) = (r : Int) := IntWalk.i64_in _ ⟨by omega, by omega⟩
      have hrb : r ≤ 2000 := by omega
      rw [hr] at HVV
      have Q0 := Lib.hid (T1.out.call (Below.refl _ _).drew)
      have HNN := Lib.hid (show ¬ Att7 z1 p1 i1 z2 p2 i2 v q L t must k → ∀ s, s < k + 1 → ¬ Att7 z1 p1 i1 z2 p2 i2 v q L t must s from fun h s hs => by
        by_cases e : s = k
        · subst e; exact h
        · exact HNO.out s (by omega))
      clear hvx hvy hvp hr
      go_upto_region 4 with fail
      go_cut [48] (fun s48 wx => ∃ bb : Bool, s48 = .bool bb ∧ Hid (bb = true ↔ Att7 z1 p1 i1 z2 p2 i2 v q L t must k) ∧ Hid (C2 w a1 n1 cap1 z1 p1 i1 a2 n2 cap2 z2 p2 i2 wx))
      case first =>
        by_cases hv0 : vp = v
        rotate_left
        · have tv : (vp == v) = false := by simpa using hv0
          refine wp_region_keeps (fun u => (u.cell? ⟨w.heap.size, 0, none⟩ = some (.slice a1 n1 cap1) ∧ u.cell? ⟨w.heap.size, 1, none⟩ = some (.int .i64 p1) ∧ u.cell? ⟨w.heap.size, 2, none⟩ = some (.int .i64 i1)) ∧ (u.cell? ⟨w.heap.size + 1, 0, none⟩ = some (.slice a2 n2 cap2) ∧ u.cell? ⟨w.heap.size + 1, 1, none⟩ = some (.int .i64 p2) ∧ u.cell? ⟨w.heap.size + 1, 2, none⟩ = some (.int .i64 i2)) ∧ Hid (C2 w a1 n1 cap1 z1 p1 i1 a2 n2 cap2 z2 p2 i2 u)) 27 1 (by kernel_rfl) (by kernel_rfl) (KS.out _ Q0.out) (fun hHeld0 => ?_)
          refine wpAnyK_take (i := 0) (v := ?_) rfl (by kernel_rfl) (fun _ _ _ h => h) (Or.inl ⟨by rfl, ?_⟩) (by assumption) ?_
          rotate_left
          · (intro w hSw; (try dsimp only at hSw); go_simp; try with_reducible rfl)
          try simp only [Act.put, List.getElem_toArray, List.getElem_cons_zero, List.getElem_cons_succ, List.setIfInBounds_toArray, List.set_cons_zero, List.set_cons_succ]
          refine wpAnyK_take (i := 1) (v := ?_) rfl (by kernel_rfl) (fun _ _ _ h => h) (Or.inl ⟨by rfl, ?_⟩) (by assumption) ?_
          rotate_left
          · (intro w hSw; (try dsimp only at hSw); go_simp; try with_reducible rfl)
          try simp only [Act.put, List.getElem_toArray, List.getElem_cons_zero, List.getElem_cons_succ, List.setIfInBounds_toArray, List.set_cons_zero, List.set_cons_succ]
          refine wpAnyK_take (i := 3) (v := ?_) rfl (by kernel_rfl) (fun _ _ _ h => h) (Or.inl ⟨by rfl, ?_⟩) (by assumption) ?_
          rotate_left
          · (intro w hSw; (try dsimp only at hSw); go_simp; try with_reducible rfl)
          try simp only [Act.put, List.getElem_toArray, List.getElem_cons_zero, List.getElem_cons_succ, List.setIfInBounds_toArray, List.set_cons_zero, List.set_cons_succ]
          refine wpAnyK_take (i := 4) (v := ?_) rfl (by kernel_rfl) (fun _ _ _ h => h) (Or.inl ⟨by rfl, ?_⟩) (by assumption) ?_
          rotate_left
          · (intro w hSw; (try dsimp only at hSw); go_simp; try with_reducible rfl)
          try simp only [Act.put, List.getElem_toArray, List.getElem_cons_zero, List.getElem_cons_succ, List.setIfInBounds_toArray, List.set_cons_zero, List.set_cons_succ]
          refine wpAnyK_take (i := 5) (v := ?_) rfl (by kernel_rfl) (fun _ _ _ h => h) (Or.inl ⟨by rfl, ?_⟩) (by assumption) ?_
          rotate_left
          · (intro w hSw; (try dsimp only at hSw); go_simp; try with_reducible rfl)
          try simp only [Act.put, List.getElem_toArray, List.getElem_cons_zero, List.getElem_cons_succ, List.setIfInBounds_toArray, List.set_cons_zero, List.set_cons_succ]
          refine wpAnyK_take (i := 6) (v := ?_) rfl (by kernel_rfl) (fun _ _ _ h => h) (Or.inl ⟨by rfl, ?_⟩) (by assumption) ?_
          rotate_left
          · (intro w hSw; (try dsimp only at hSw); go_simp; try with_reducible rfl)
          try simp only [Act.put, List.getElem_toArray, List.getElem_cons_zero, List.getElem_cons_succ, List.setIfInBounds_toArray, List.set_cons_zero, List.set_cons_succ]
          refine wpAnyK_take (i := 9) (v := ?_) rfl (by kernel_rfl) (fun _ _ _ h => h) (Or.inl ⟨by rfl, ?_⟩) (by assumption) ?_
          rotate_left
          · (intro w hSw; (try dsimp only at hSw); go_simp; try with_reducible rfl)
          try simp only [Act.put, List.getElem_toArray, List.getElem_cons_zero, List.getElem_cons_succ, List.setIfInBounds_toArray, List.set_cons_zero, List.set_cons_succ]
          refine wpAnyK_step (i := 2) rfl (by kernel_rfl) (fun K hK => ?_)
          go_simp
          with_reducible refine (rat_at a1 n1 cap1 z1 p1 i1 HG.out.1 k k rfl (by omega) vx HVV.out.1 _ Q0.out.f.row).mono ?_
          rintro e y1 ⟨rfl, hb⟩
          have Q1 := Lib.hid (Q0.out.call hb)
          clear hb
          refine hK.out _ _ (KS.out _ Q1.out) (fun hHeld1 => ?_)
          clear hK K hHeld0
          try simp only [Act.put, List.getElem_toArray, List.getElem_cons_zero, List.getElem_cons_succ, List.setIfInBounds_toArray, List.set_cons_zero, List.set_cons_succ]
          refine wpAnyK_step (i := 7) rfl (by kernel_rfl) (fun K hK => ?_)
          go_simp
          with_reducible refine (rat_at a2 n2 cap2 z2 p2 i2 HG.out.2 r r rfl (by omega) vy HVV.out.2.1 _ Q1.out.g.row).mono ?_
          rintro e y2 ⟨rfl, hb⟩
          have Q2 := Lib.hid (Q1.out.call hb)
          clear hb
          refine hK.out _ _ (KS.out _ Q2.out) (fun hHeld2 => ?_)
          clear hK K hHeld1
          try simp only [Act.put, List.getElem_toArray, List.getElem_cons_zero, List.getElem_cons_succ, List.setIfInBounds_toArray, List.set_cons_zero, List.set_cons_succ]
          refine wpAnyK_step (i := 8) rfl (by kernel_rfl) (fun K hK => ?_)
          go_simp
          with_reducible refine (plus7 vx vy MX.out.1 MX.out.2 vp HVV.out.2.2 _).mono ?_
          rintro e y3 ⟨rfl, rfl⟩

          refine hK.out _ _ (KS.out _ Q2.out) (fun hHeld3 => ?_)
          clear hK K hHeld2
          try simp only [Act.put, List.getElem_toArray, List.getElem_cons_zero, List.getElem_cons_succ, List.setIfInBounds_toArray, List.set_cons_zero, List.set_cons_succ]
          refine wpAnyK_take (i := 10) (v := ?_) rfl (by kernel_rfl) (fun _ _ _ h => h) (Or.inl ⟨by rfl, ?_⟩) (by assumption) ?_
          rotate_left
          · (intro w hSw; (try dsimp only at hSw); go_simp; try with_reducible rfl)
          try simp only [Act.put, List.getElem_toArray, List.getElem_cons_zero, List.getElem_cons_succ, List.setIfInBounds_toArray, List.set_cons_zero, List.set_cons_succ]
          refine wpAnyK_take (i := 11) (v := ?_) rfl (by kernel_rfl) (fun _ _ _ h => h) (Or.inl ⟨by rfl, ?_⟩) (by assumption) ?_
          rotate_left
          · (intro w hSw; (try dsimp only at hSw); go_simp; try with_reducible rfl)
          try simp only [Act.put, List.getElem_toArray, List.getElem_cons_zero, List.getElem_cons_succ, List.setIfInBounds_toArray, List.set_cons_zero, List.set_cons_succ]
          refine wpAnyK_take (i := 12) (v := undef) rfl (by kernel_rfl) (fun _ _ _ h => h) (Or.inr ⟨by rfl, rfl⟩) (by assumption) ?_
          try simp only [Act.put, List.getElem_toArray, List.getElem_cons_zero, List.getElem_cons_succ, List.setIfInBounds_toArray, List.set_cons_zero, List.set_cons_succ]
          refine wpAnyK_take (i := 13) (v := undef) rfl (by kernel_rfl) (fun _ _ _ h => h) (Or.inr ⟨by rfl, rfl⟩) (by assumption) ?_
          try simp only [Act.put, List.getElem_toArray, List.getElem_cons_zero, List.getElem_cons_succ, List.setIfInBounds_toArray, List.set_cons_zero, List.set_cons_succ]
          refine wpAnyK_take (i := 14) (v := undef) rfl (by kernel_rfl) (fun _ _ _ h => h) (Or.inr ⟨by rfl, rfl⟩) (by assumption) ?_
          try simp only [Act.put, List.getElem_toArray, List.getElem_cons_zero, List.getElem_cons_succ, List.setIfInBounds_toArray, List.set_cons_zero, List.set_cons_succ]
          refine wpAnyK_take (i := 15) (v := undef) rfl (by kernel_rfl) (fun _ _ _ h => h) (Or.inr ⟨by rfl, rfl⟩) (by assumption) ?_
          try simp only [Act.put, List.getElem_toArray, List.getElem_cons_zero, List.getElem_cons_succ, List.setIfInBounds_toArray, List.set_cons_zero, List.set_cons_succ]
          refine wpAnyK_take (i := 16) (v := undef) rfl (by kernel_rfl) (fun _ _ _ h => h) (Or.inr ⟨by rfl, rfl⟩) (by assumption) ?_
          try simp only [Act.put, List.getElem_toArray, List.getElem_cons_zero, List.getElem_cons_succ, List.setIfInBounds_toArray, List.set_cons_zero, List.set_cons_succ]
          refine wpAnyK_take (i := 17) (v := undef) rfl (by kernel_rfl) (fun _ _ _ h => h) (Or.inr ⟨by rfl, rfl⟩) (by assumption) ?_
          try simp only [Act.put, List.getElem_toArray, List.getElem_cons_zero, List.getElem_cons_succ, List.setIfInBounds_toArray, List.set_cons_zero, List.set_cons_succ]
          refine wpAnyK_take (i := 18) (v := undef) rfl (by kernel_rfl) (fun _ _ _ h => h) (Or.inr ⟨by rfl, rfl⟩) (by assumption) ?_
          try simp only [Act.put, List.getElem_toArray, List.getElem_cons_zero, List.getElem_cons_succ, List.setIfInBounds_toArray, List.set_cons_zero, List.set_cons_succ]
          refine wpAnyK_take (i := 19) (v := undef) rfl (by kernel_rfl) (fun _ _ _ h => h) (Or.inr ⟨by rfl, rfl⟩) (by assumption) ?_
          try simp only [Act.put, List.getElem_toArray, List.getElem_cons_zero, List.getElem_cons_succ, List.setIfInBounds_toArray, List.set_cons_zero, List.set_cons_succ]
          refine wpAnyK_take (i := 20) (v := undef) rfl (by kernel_rfl) (fun _ _ _ h => h) (Or.inr ⟨by rfl, rfl⟩) (by assumption) ?_
          try simp only [Act.put, List.getElem_toArray, List.getElem_cons_zero, List.getElem_cons_succ, List.setIfInBounds_toArray, List.set_cons_zero, List.set_cons_succ]
          refine wpAnyK_take (i := 21) (v := undef) rfl (by kernel_rfl) (fun _ _ _ h => h) (Or.inr ⟨by rfl, rfl⟩) (by assumption) ?_
          try simp only [Act.put, List.getElem_toArray, List.getElem_cons_zero, List.getElem_cons_succ, List.setIfInBounds_toArray, List.set_cons_zero, List.set_cons_succ]
          refine wpAnyK_take (i := 22) (v := undef) rfl (by kernel_rfl) (fun _ _ _ h => h) (Or.inr ⟨by rfl, rfl⟩) (by assumption) ?_
          try simp only [Act.put, List.getElem_toArray, List.getElem_cons_zero, List.getElem_cons_succ, List.setIfInBounds_toArray, List.set_cons_zero, List.set_cons_succ]
          refine wpAnyK_take (i := 23) (v := undef) rfl (by kernel_rfl) (fun _ _ _ h => h) (Or.inr ⟨by rfl, rfl⟩) (by assumption) ?_
          try simp only [Act.put, List.getElem_toArray, List.getElem_cons_zero, List.getElem_cons_succ, List.setIfInBounds_toArray, List.set_cons_zero, List.set_cons_succ]
          refine wpAnyK_take (i := 24) (v := undef) rfl (by kernel_rfl) (fun _ _ _ h => h) (Or.inr ⟨by rfl, rfl⟩) (by assumption) ?_
          try simp only [Act.put, List.getElem_toArray, List.getElem_cons_zero, List.getElem_cons_succ, List.setIfInBounds_toArray, List.set_cons_zero, List.set_cons_succ]
          refine wpAnyK_take (i := 25) (v := undef) rfl (by kernel_rfl) (fun _ _ _ h => h) (Or.inr ⟨by rfl, rfl⟩) (by assumption) ?_
          try simp only [Act.put, List.getElem_toArray, List.getElem_cons_zero, List.getElem_cons_succ, List.setIfInBounds_toArray, List.set_cons_zero, List.set_cons_succ]
          refine wpAnyK_take (i := 26) (v := undef) rfl (by kernel_rfl) (fun _ _ _ h => h) (Or.inr ⟨by rfl, rfl⟩) (by assumption) ?_
          try simp only [Act.put, List.getElem_toArray, List.getElem_cons_zero, List.getElem_cons_succ, List.setIfInBounds_toArray, List.set_cons_zero, List.set_cons_succ]
          refine wpAnyK_done (by kernel_rfl) ?_
          simp only [List.drop_succ_cons, List.drop_zero]
          clear hHeld3
          go_wp2_with fail
          go_meet
          exact ⟨false, rfl, ⟨fun h => (by simp at h), fun h => absurd (HAT.out.1 h).1 hv0⟩, Q2⟩
        have tv : (vp == v) = true := by simpa using hv0
        cases must with
        | false =>
          refine wp_region_keeps (fun u => (u.cell? ⟨w.heap.size, 0, none⟩ = some (.slice a1 n1 cap1) ∧ u.cell? ⟨w.heap.size, 1, none⟩ = some (.int .i64 p1) ∧ u.cell? ⟨w.heap.size, 2, none⟩ = some (.int .i64 i1)) ∧ (u.cell? ⟨w.heap.size + 1, 0, none⟩ = some (.slice a2 n2 cap2) ∧ u.cell? ⟨w.heap.size + 1, 1, none⟩ = some (.int .i64 p2) ∧ u.cell? ⟨w.heap.size + 1, 2, none⟩ = some (.int .i64 i2)) ∧ Hid (C2 w a1 n1 cap1 z1 p1 i1 a2 n2 cap2 z2 p2 i2 u)) 27 1 (by kernel_rfl) (by kernel_rfl) (KS.out _ Q0.out) (fun hHeld0 => ?_)
          refine wpAnyK_take (i := 0) (v := ?_) rfl (by kernel_rfl) (fun _ _ _ h => h) (Or.inl ⟨by rfl, ?_⟩) (by assumption) ?_
          rotate_left
          · (intro w hSw; (try dsimp only at hSw); go_simp; try with_reducible rfl)
          try simp only [Act.put, List.getElem_toArray, List.getElem_cons_zero, List.getElem_cons_succ, List.setIfInBounds_toArray, List.set_cons_zero, List.set_cons_succ]
          refine wpAnyK_take (i := 1) (v := ?_) rfl (by kernel_rfl) (fun _ _ _ h => h) (Or.inl ⟨by rfl, ?_⟩) (by assumption) ?_
          rotate_left
          · (intro w hSw; (try dsimp only at hSw); go_simp; try with_reducible rfl)
          try simp only [Act.put, List.getElem_toArray, List.getElem_cons_zero, List.getElem_cons_succ, List.setIfInBounds_toArray, List.set_cons_zero, List.set_cons_succ]
          refine wpAnyK_take (i := 3) (v := ?_) rfl (by kernel_rfl) (fun _ _ _ h => h) (Or.inl ⟨by rfl, ?_⟩) (by assumption) ?_
          rotate_left
          · (intro w hSw; (try dsimp only at hSw); go_simp; try with_reducible rfl)
          try simp only [Act.put, List.getElem_toArray, List.getElem_cons_zero, List.getElem_cons_succ, List.setIfInBounds_toArray, List.set_cons_zero, List.set_cons_succ]
          refine wpAnyK_take (i := 4) (v := ?_) rfl (by kernel_rfl) (fun _ _ _ h => h) (Or.inl ⟨by rfl, ?_⟩) (by assumption) ?_
          rotate_left
          · (intro w hSw; (try dsimp only at hSw); go_simp; try with_reducible rfl)
          try simp only [Act.put, List.getElem_toArray, List.getElem_cons_zero, List.getElem_cons_succ, List.setIfInBounds_toArray, List.set_cons_zero, List.set_cons_succ]
          refine wpAnyK_take (i := 5) (v := ?_) rfl (by kernel_rfl) (fun _ _ _ h => h) (Or.inl ⟨by rfl, ?_⟩) (by assumption) ?_
          rotate_left
          · (intro w hSw; (try dsimp only at hSw); go_simp; try with_reducible rfl)
          try simp only [Act.put, List.getElem_toArray, List.getElem_cons_zero, List.getElem_cons_succ, List.setIfInBounds_toArray, List.set_cons_zero, List.set_cons_succ]
          refine wpAnyK_take (i := 6) (v := ?_) rfl (by kernel_rfl) (fun _ _ _ h => h) (Or.inl ⟨by rfl, ?_⟩) (by assumption) ?_
          rotate_left
          · (intro w hSw; (try dsimp only at hSw); go_simp; try with_reducible rfl)
          try simp only [Act.put, List.getElem_toArray, List.getElem_cons_zero, List.getElem_cons_succ, List.setIfInBounds_toArray, List.set_cons_zero, List.set_cons_succ]
          refine wpAnyK_take (i := 9) (v := ?_) rfl (by kernel_rfl) (fun _ _ _ h => h) (Or.inl ⟨by rfl, ?_⟩) (by assumption) ?_
          rotate_left
          · (intro w hSw; (try dsimp only at hSw); go_simp; try with_reducible rfl)
          try simp only [Act.put, List.getElem_toArray, List.getElem_cons_zero, List.getElem_cons_succ, List.setIfInBounds_toArray, List.set_cons_zero, List.set_cons_succ]
          refine wpAnyK_step (i := 2) rfl (by kernel_rfl) (fun K hK => ?_)
          go_simp
          with_reducible refine (rat_at a1 n1 cap1 z1 p1 i1 HG.out.1 k k rfl (by omega) vx HVV.out.1 _ Q0.out.f.row).mono ?_
          rintro e y1 ⟨rfl, hb⟩
          have Q1 := Lib.hid (Q0.out.call hb)
          clear hb
          refine hK.out _ _ (KS.out _ Q1.out) (fun hHeld1 => ?_)
          clear hK K hHeld0
          try simp only [Act.put, List.getElem_toArray, List.getElem_cons_zero, List.getElem_cons_succ, List.setIfInBounds_toArray, List.set_cons_zero, List.set_cons_succ]
          refine wpAnyK_step (i := 7) rfl (by kernel_rfl) (fun K hK => ?_)
          go_simp
          with_reducible refine (rat_at a2 n2 cap2 z2 p2 i2 HG.out.2 r r rfl (by omega) vy HVV.out.2.1 _ Q1.out.g.row).mono ?_
          rintro e y2 ⟨rfl, hb⟩
          have Q2 := Lib.hid (Q1.out.call hb)
          clear hb
          refine hK.out _ _ (KS.out _ Q2.out) (fun hHeld2 => ?_)
          clear hK K hHeld1
          try simp only [Act.put, List.getElem_toArray, List.getElem_cons_zero, List.getElem_cons_succ, List.setIfInBounds_toArray, List.set_cons_zero, List.set_cons_succ]
          refine wpAnyK_step (i := 8) rfl (by kernel_rfl) (fun K hK => ?_)
          go_simp
          with_reducible refine (plus7 vx vy MX.out.1 MX.out.2 vp HVV.out.2.2 _).mono ?_
          rintro e y3 ⟨rfl, rfl⟩

          refine hK.out _ _ (KS.out _ Q2.out) (fun hHeld3 => ?_)
          clear hK K hHeld2
          try simp only [Act.put, List.getElem_toArray, List.getElem_cons_zero, List.getElem_cons_succ, List.setIfInBounds_toArray, List.set_cons_zero, List.set_cons_succ]
          refine wpAnyK_take (i := 10) (v := ?_) rfl (by kernel_rfl) (fun _ _ _ h => h) (Or.inl ⟨by rfl, ?_⟩) (by assumption) ?_
          rotate_left
          · (intro w hSw; (try dsimp only at hSw); go_simp; try with_reducible rfl)
          try simp only [Act.put, List.getElem_toArray, List.getElem_cons_zero, List.getElem_cons_succ, List.setIfInBounds_toArray, List.set_cons_zero, List.set_cons_succ]
          refine wpAnyK_take (i := 11) (v := ?_) rfl (by kernel_rfl) (fun _ _ _ h => h) (Or.inl ⟨by rfl, ?_⟩) (by assumption) ?_
          rotate_left
          · (intro w hSw; (try dsimp only at hSw); go_simp; try with_reducible rfl)
          try simp only [Act.put, List.getElem_toArray, List.getElem_cons_zero, List.getElem_cons_succ, List.setIfInBounds_toArray, List.set_cons_zero, List.set_cons_succ]
          refine wpAnyK_take (i := 12) (v := ?_) rfl (by kernel_rfl) (fun _ _ _ h => h) (Or.inl ⟨by rfl, ?_⟩) (by assumption) ?_
          rotate_left
          · (intro w hSw; (try dsimp only at hSw); go_simp; try with_reducible rfl)
          try simp only [Act.put, List.getElem_toArray, List.getElem_cons_zero, List.getElem_cons_succ, List.setIfInBounds_toArray, List.set_cons_zero, List.set_cons_succ]
          refine wpAnyK_take (i := 13) (v := ?_) rfl (by kernel_rfl) (fun _ _ _ h => h) (Or.inl ⟨by rfl, ?_⟩) (by assumption) ?_
          rotate_left
          · (intro w hSw; (try dsimp only at hSw); go_simp; try with_reducible rfl)
          try simp only [Act.put, List.getElem_toArray, List.getElem_cons_zero, List.getElem_cons_succ, List.setIfInBounds_toArray, List.set_cons_zero, List.set_cons_succ]
          refine wpAnyK_take (i := 14) (v := ?_) rfl (by kernel_rfl) (fun _ _ _ h => h) (Or.inl ⟨by rfl, ?_⟩) (by assumption) ?_
          rotate_left
          · (intro w hSw; (try dsimp only at hSw); go_simp; try with_reducible rfl)
          try simp only [Act.put, List.getElem_toArray, List.getElem_cons_zero, List.getElem_cons_succ, List.setIfInBounds_toArray, List.set_cons_zero, List.set_cons_succ]
          refine wpAnyK_take (i := 15) (v := undef) rfl (by kernel_rfl) (fun _ _ _ h => h) (Or.inr ⟨by rfl, rfl⟩) (by assumption) ?_
          try simp only [Act.put, List.getElem_toArray, List.getElem_cons_zero, List.getElem_cons_succ, List.setIfInBounds_toArray, List.set_cons_zero, List.set_cons_succ]
          refine wpAnyK_take (i := 16) (v := undef) rfl (by kernel_rfl) (fun _ _ _ h => h) (Or.inr ⟨by rfl, rfl⟩) (by assumption) ?_
          try simp only [Act.put, List.getElem_toArray, List.getElem_cons_zero, List.getElem_cons_succ, List.setIfInBounds_toArray, List.set_cons_zero, List.set_cons_succ]
          refine wpAnyK_take (i := 17) (v := ?_) rfl (by kernel_rfl) (fun _ _ _ h => h) (Or.inl ⟨by rfl, ?_⟩) (by assumption) ?_
          rotate_left
          · (intro w hSw; (try dsimp only at hSw); go_simp; try with_reducible rfl)
          try simp only [Act.put, List.getElem_toArray, List.getElem_cons_zero, List.getElem_cons_succ, List.setIfInBounds_toArray, List.set_cons_zero, List.set_cons_succ]
          refine wpAnyK_take (i := 18) (v := ?_) rfl (by kernel_rfl) (fun _ _ _ h => h) (Or.inl ⟨by rfl, ?_⟩) (by assumption) ?_
          rotate_left
          · (intro w hSw; (try dsimp only at hSw); go_simp; try with_reducible rfl)
          try simp only [Act.put, List.getElem_toArray, List.getElem_cons_zero, List.getElem_cons_succ, List.setIfInBounds_toArray, List.set_cons_zero, List.set_cons_succ]
          refine wpAnyK_take (i := 19) (v := undef) rfl (by kernel_rfl) (fun _ _ _ h => h) (Or.inr ⟨by rfl, rfl⟩) (by assumption) ?_
          try simp only [Act.put, List.getElem_toArray, List.getElem_cons_zero, List.getElem_cons_succ, List.setIfInBounds_toArray, List.set_cons_zero, List.set_cons_succ]
          refine wpAnyK_take (i := 20) (v := undef) rfl (by kernel_rfl) (fun _ _ _ h => h) (Or.inr ⟨by rfl, rfl⟩) (by assumption) ?_
          try simp only [Act.put, List.getElem_toArray, List.getElem_cons_zero, List.getElem_cons_succ, List.setIfInBounds_toArray, List.set_cons_zero, List.set_cons_succ]
          refine wpAnyK_take (i := 21) (v := undef) rfl (by kernel_rfl) (fun _ _ _ h => h) (Or.inr ⟨by rfl, rfl⟩) (by assumption) ?_
          try simp only [Act.put, List.getElem_toArray, List.getElem_cons_zero, List.getElem_cons_succ, List.setIfInBounds_toArray, List.set_cons_zero, List.set_cons_succ]
          refine wpAnyK_take (i := 22) (v := undef) rfl (by kernel_rfl) (fun _ _ _ h => h) (Or.inr ⟨by rfl, rfl⟩) (by assumption) ?_
          try simp only [Act.put, List.getElem_toArray, List.getElem_cons_zero, List.getElem_cons_succ, List.setIfInBounds_toArray, List.set_cons_zero, List.set_cons_succ]
          refine wpAnyK_take (i := 23) (v := undef) rfl (by kernel_rfl) (fun _ _ _ h => h) (Or.inr ⟨by rfl, rfl⟩) (by assumption) ?_
          try simp only [Act.put, List.getElem_toArray, List.getElem_cons_zero, List.getElem_cons_succ, List.setIfInBounds_toArray, List.set_cons_zero, List.set_cons_succ]
          refine wpAnyK_take (i := 24) (v := undef) rfl (by kernel_rfl) (fun _ _ _ h => h) (Or.inr ⟨by rfl, rfl⟩) (by assumption) ?_
          try simp only [Act.put, List.getElem_toArray, List.getElem_cons_zero, List.getElem_cons_succ, List.setIfInBounds_toArray, List.set_cons_zero, List.set_cons_succ]
          refine wpAnyK_take (i := 25) (v := undef) rfl (by kernel_rfl) (fun _ _ _ h => h) (Or.inr ⟨by rfl, rfl⟩) (by assumption) ?_
          try simp only [Act.put, List.getElem_toArray, List.getElem_cons_zero, List.getElem_cons_succ, List.setIfInBounds_toArray, List.set_cons_zero, List.set_cons_succ]
          refine wpAnyK_take (i := 26) (v := ?_) rfl (by kernel_rfl) (fun _ _ _ h => h) (Or.inl ⟨by rfl, ?_⟩) (by assumption) ?_
          rotate_left
          · (intro w hSw; (try dsimp only at hSw); go_simp; try with_reducible rfl)
          try simp only [Act.put, List.getElem_toArray, List.getElem_cons_zero, List.getElem_cons_succ, List.setIfInBounds_toArray, List.set_cons_zero, List.set_cons_succ]
          refine wpAnyK_done (by kernel_rfl) ?_
          simp only [List.drop_succ_cons, List.drop_zero]
          clear hHeld3
          go_wp2_with fail
          go_meet
          exact ⟨true, rfl, ⟨fun _ => HAT.out.2 ⟨hv0, .inl trivial⟩, fun _ => by simp⟩, Q2⟩
        | true =>
          by_cases hvi : v = 4611686018427387904
          · have ti : (v == 4611686018427387904) = true := by simpa using hvi
            have HVI := Lib.hid hvi
            clear hvi
            refine wp_region_keeps (fun u => (u.cell? ⟨w.heap.size, 0, none⟩ = some (.slice a1 n1 cap1) ∧ u.cell? ⟨w.heap.size, 1, none⟩ = some (.int .i64 p1) ∧ u.cell? ⟨w.heap.size, 2, none⟩ = some (.int .i64 i1)) ∧ (u.cell? ⟨w.heap.size + 1, 0, none⟩ = some (.slice a2 n2 cap2) ∧ u.cell? ⟨w.heap.size + 1, 1, none⟩ = some (.int .i64 p2) ∧ u.cell? ⟨w.heap.size + 1, 2, none⟩ = some (.int .i64 i2)) ∧ Hid (C2 w a1 n1 cap1 z1 p1 i1 a2 n2 cap2 z2 p2 i2 u)) 27 1 (by kernel_rfl) (by kernel_rfl) (KS.out _ Q0.out) (fun hHeld0 => ?_)
            refine wpAnyK_take (i := 0) (v := ?_) rfl (by kernel_rfl) (fun _ _ _ h => h) (Or.inl ⟨by rfl, ?_⟩) (by assumption) ?_
            rotate_left
            · (intro w hSw; (try dsimp only at hSw); go_simp; try with_reducible rfl)
            try simp only [Act.put, List.getElem_toArray, List.getElem_cons_zero, List.getElem_cons_succ, List.setIfInBounds_toArray, List.set_cons_zero, List.set_cons_succ]
            refine wpAnyK_take (i := 1) (v := ?_) rfl (by kernel_rfl) (fun _ _ _ h => h) (Or.inl ⟨by rfl, ?_⟩) (by assumption) ?_
            rotate_left
            · (intro w hSw; (try dsimp only at hSw); go_simp; try with_reducible rfl)
            try simp only [Act.put, List.getElem_toArray, List.getElem_cons_zero, List.getElem_cons_succ, List.setIfInBounds_toArray, List.set_cons_zero, List.set_cons_succ]
            refine wpAnyK_take (i := 3) (v := ?_) rfl (by kernel_rfl) (fun _ _ _ h => h) (Or.inl ⟨by rfl, ?_⟩) (by assumption) ?_
            rotate_left
            · (intro w hSw; (try dsimp only at hSw); go_simp; try with_reducible rfl)
            try simp only [Act.put, List.getElem_toArray, List.getElem_cons_zero, List.getElem_cons_succ, List.setIfInBounds_toArray, List.set_cons_zero, List.set_cons_succ]
            refine wpAnyK_take (i := 4) (v := ?_) rfl (by kernel_rfl) (fun _ _ _ h => h) (Or.inl ⟨by rfl, ?_⟩) (by assumption) ?_
            rotate_left
            · (intro w hSw; (try dsimp only at hSw); go_simp; try with_reducible rfl)
            try simp only [Act.put, List.getElem_toArray, List.getElem_cons_zero, List.getElem_cons_succ, List.setIfInBounds_toArray, List.set_cons_zero, List.set_cons_succ]
            refine wpAnyK_take (i := 5) (v := ?_) rfl (by kernel_rfl) (fun _ _ _ h => h) (Or.inl ⟨by rfl, ?_⟩) (by assumption) ?_
            rotate_left
            · (intro w hSw; (try dsimp only at hSw); go_simp; try with_reducible rfl)
            try simp only [Act.put, List.getElem_toArray, List.getElem_cons_zero, List.getElem_cons_succ, List.setIfInBounds_toArray, List.set_cons_zero, List.set_cons_succ]
            refine wpAnyK_take (i := 6) (v := ?_) rfl (by kernel_rfl) (fun _ _ _ h => h) (Or.inl ⟨by rfl, ?_⟩) (by assumption) ?_
            rotate_left
            · (intro w hSw; (try dsimp only at hSw); go_simp; try with_reducible rfl)
            try simp only [Act.put, List.getElem_toArray, List.getElem_cons_zero, List.getElem_cons_succ, List.setIfInBounds_toArray, List.set_cons_zero, List.set_cons_succ]
            refine wpAnyK_take (i := 9) (v := ?_) rfl (by kernel_rfl) (fun _ _ _ h => h) (Or.inl ⟨by rfl, ?_⟩) (by assumption) ?_
            rotate_left
            · (intro w hSw; (try dsimp only at hSw); go_simp; try with_reducible rfl)
            try simp only [Act.put, List.getElem_toArray, List.getElem_cons_zero, List.getElem_cons_succ, List.setIfInBounds_toArray, List.set_cons_zero, List.set_cons_succ]
            refine wpAnyK_step (i := 2) rfl (by kernel_rfl) (fun K hK => ?_)
            go_simp
            with_reducible refine (rat_at a1 n1 cap1 z1 p1 i1 HG.out.1 k k rfl (by omega) vx HVV.out.1 _ Q0.out.f.row).mono ?_
            rintro e y1 ⟨rfl, hb⟩
            have Q1 := Lib.hid (Q0.out.call hb)
            clear hb
            refine hK.out _ _ (KS.out _ Q1.out) (fun hHeld1 => ?_)
            clear hK K hHeld0
            try simp only [Act.put, List.getElem_toArray, List.getElem_cons_zero, List.getElem_cons_succ, List.setIfInBounds_toArray, List.set_cons_zero, List.set_cons_succ]
            refine wpAnyK_step (i := 7) rfl (by kernel_rfl) (fun K hK => ?_)
            go_simp
            with_reducible refine (rat_at a2 n2 cap2 z2 p2 i2 HG.out.2 r r rfl (by omega) vy HVV.out.2.1 _ Q1.out.g.row).mono ?_
            rintro e y2 ⟨rfl, hb⟩
            have Q2 := Lib.hid (Q1.out.call hb)
            clear hb
            refine hK.out _ _ (KS.out _ Q2.out) (fun hHeld2 => ?_)
            clear hK K hHeld1
            try simp only [Act.put, List.getElem_toArray, List.getElem_cons_zero, List.getElem_cons_succ, List.setIfInBounds_toArray, List.set_cons_zero, List.set_cons_succ]
            refine wpAnyK_step (i := 8) rfl (by kernel_rfl) (fun K hK => ?_)
            go_simp
            with_reducible refine (plus7 vx vy MX.out.1 MX.out.2 vp HVV.out.2.2 _).mono ?_
            rintro e y3 ⟨rfl, rfl⟩

            refine hK.out _ _ (KS.out _ Q2.out) (fun hHeld3 => ?_)
            clear hK K hHeld2
            try simp only [Act.put, List.getElem_toArray, List.getElem_cons_zero, List.getElem_cons_succ, List.setIfInBounds_toArray, List.set_cons_zero, List.set_cons_succ]
            refine wpAnyK_take (i := 10) (v := ?_) rfl (by kernel_rfl) (fun _ _ _ h => h) (Or.inl ⟨by rfl, ?_⟩) (by assumption) ?_
            rotate_left
            · (intro w hSw; (try dsimp only at hSw); go_simp; try with_reducible rfl)
            try simp only [Act.put, List.getElem_toArray, List.getElem_cons_zero, List.getElem_cons_succ, List.setIfInBounds_toArray, List.set_cons_zero, List.set_cons_succ]
            refine wpAnyK_take (i := 11) (v := ?_) rfl (by kernel_rfl) (fun _ _ _ h => h) (Or.inl ⟨by rfl, ?_⟩) (by assumption) ?_
            rotate_left
            · (intro w hSw; (try dsimp only at hSw); go_simp; try with_reducible rfl)
            try simp only [Act.put, List.getElem_toArray, List.getElem_cons_zero, List.getElem_cons_succ, List.setIfInBounds_toArray, List.set_cons_zero, List.set_cons_succ]
            refine wpAnyK_take (i := 12) (v := ?_) rfl (by kernel_rfl) (fun _ _ _ h => h) (Or.inl ⟨by rfl, ?_⟩) (by assumption) ?_
            rotate_left
            · (intro w hSw; (try dsimp only at hSw); go_simp; try with_reducible rfl)
            try simp only [Act.put, List.getElem_toArray, List.getElem_cons_zero, List.getElem_cons_succ, List.setIfInBounds_toArray, List.set_cons_zero, List.set_cons_succ]
            refine wpAnyK_take (i := 13) (v := ?_) rfl (by kernel_rfl) (fun _ _ _ h => h) (Or.inl ⟨by rfl, ?_⟩) (by assumption) ?_
            rotate_left
            · (intro w hSw; (try dsimp only at hSw); go_simp; try with_reducible rfl)
            try simp only [Act.put, List.getElem_toArray, List.getElem_cons_zero, List.getElem_cons_succ, List.setIfInBounds_toArray, List.set_cons_zero, List.set_cons_succ]
            refine wpAnyK_take (i := 14) (v := ?_) rfl (by kernel_rfl) (fun _ _ _ h => h) (Or.inl ⟨by rfl, ?_⟩) (by assumption) ?_
            rotate_left
            · (intro w hSw; (try dsimp only at hSw); go_simp; try with_reducible rfl)
            try simp only [Act.put, List.getElem_toArray, List.getElem_cons_zero, List.getElem_cons_succ, List.setIfInBounds_toArray, List.set_cons_zero, List.set_cons_succ]
            refine wpAnyK_take (i := 15) (v := ?_) rfl (by kernel_rfl) (fun _ _ _ h => h) (Or.inl ⟨by rfl, ?_⟩) (by assumption) ?_
            rotate_left
            · (intro w hSw; (try dsimp only at hSw); go_simp; try with_reducible rfl)
            try simp only [Act.put, List.getElem_toArray, List.getElem_cons_zero, List.getElem_cons_succ, List.setIfInBounds_toArray, List.set_cons_zero, List.set_cons_succ]
            refine wpAnyK_take (i := 16) (v := ?_) rfl (by kernel_rfl) (fun _ _ _ h => h) (Or.inl ⟨by rfl, ?_⟩) (by assumption) ?_
            rotate_left
            · (intro w hSw; (try dsimp only at hSw); go_simp; try with_reducible rfl)
            try simp only [Act.put, List.getElem_toArray, List.getElem_cons_zero, List.getElem_cons_succ, List.setIfInBounds_toArray, List.set_cons_zero, List.set_cons_succ]
            refine wpAnyK_take (i := 17) (v := ?_) rfl (by kernel_rfl) (fun _ _ _ h => h) (Or.inl ⟨by rfl, ?_⟩) (by assumption) ?_
            rotate_left
            · (intro w hSw; (try dsimp only at hSw); go_simp; try with_reducible rfl)
            try simp only [Act.put, List.getElem_toArray, List.getElem_cons_zero, List.getElem_cons_succ, List.setIfInBounds_toArray, List.set_cons_zero, List.set_cons_succ]
            refine wpAnyK_take (i := 18) (v := ?_) rfl (by kernel_rfl) (fun _ _ _ h => h) (Or.inl ⟨by rfl, ?_⟩) (by assumption) ?_
            rotate_left
            · (intro w hSw; (try dsimp only at hSw); go_simp; try with_reducible rfl)
            try simp only [Act.put, List.getElem_toArray, List.getElem_cons_zero, List.getElem_cons_succ, List.setIfInBounds_toArray, List.set_cons_zero, List.set_cons_succ]
            refine wpAnyK_take (i := 19) (v := undef) rfl (by kernel_rfl) (fun _ _ _ h => h) (Or.inr ⟨by rfl, rfl⟩) (by assumption) ?_
            try simp only [Act.put, List.getElem_toArray, List.getElem_cons_zero, List.getElem_cons_succ, List.setIfInBounds_toArray, List.set_cons_zero, List.set_cons_succ]
            refine wpAnyK_take (i := 20) (v := undef) rfl (by kernel_rfl) (fun _ _ _ h => h) (Or.inr ⟨by rfl, rfl⟩) (by assumption) ?_
            try simp only [Act.put, List.getElem_toArray, List.getElem_cons_zero, List.getElem_cons_succ, List.setIfInBounds_toArray, List.set_cons_zero, List.set_cons_succ]
            refine wpAnyK_take (i := 21) (v := undef) rfl (by kernel_rfl) (fun _ _ _ h => h) (Or.inr ⟨by rfl, rfl⟩) (by assumption) ?_
            try simp only [Act.put, List.getElem_toArray, List.getElem_cons_zero, List.getElem_cons_succ, List.setIfInBounds_toArray, List.set_cons_zero, List.set_cons_succ]
            refine wpAnyK_take (i := 22) (v := undef) rfl (by kernel_rfl) (fun _ _ _ h => h) (Or.inr ⟨by rfl, rfl⟩) (by assumption) ?_
            try simp only [Act.put, List.getElem_toArray, List.getElem_cons_zero, List.getElem_cons_succ, List.setIfInBounds_toArray, List.set_cons_zero, List.set_cons_succ]
            refine wpAnyK_take (i := 23) (v := undef) rfl (by kernel_rfl) (fun _ _ _ h => h) (Or.inr ⟨by rfl, rfl⟩) (by assumption) ?_
            try simp only [Act.put, List.getElem_toArray, List.getElem_cons_zero, List.getElem_cons_succ, List.setIfInBounds_toArray, List.set_cons_zero, List.set_cons_succ]
            refine wpAnyK_take (i := 24) (v := undef) rfl (by kernel_rfl) (fun _ _ _ h => h) (Or.inr ⟨by rfl, rfl⟩) (by assumption) ?_
            try simp only [Act.put, List.getElem_toArray, List.getElem_cons_zero, List.getElem_cons_succ, List.setIfInBounds_toArray, List.set_cons_zero, List.set_cons_succ]
            refine wpAnyK_take (i := 25) (v := undef) rfl (by kernel_rfl) (fun _ _ _ h => h) (Or.inr ⟨by rfl, rfl⟩) (by assumption) ?_
            try simp only [Act.put, List.getElem_toArray, List.getElem_cons_zero, List.getElem_cons_succ, List.setIfInBounds_toArray, List.set_cons_zero, List.set_cons_succ]
            refine wpAnyK_take (i := 26) (v := ?_) rfl (by kernel_rfl) (fun _ _ _ h => h) (Or.inl ⟨by rfl, ?_⟩) (by assumption) ?_
            rotate_left
            · (intro w hSw; (try dsimp only at hSw); go_simp; try with_reducible rfl)
            try simp only [Act.put, List.getElem_toArray, List.getElem_cons_zero, List.getElem_cons_succ, List.setIfInBounds_toArray, List.set_cons_zero, List.set_cons_succ]
            refine wpAnyK_done (by kernel_rfl) ?_
            simp only [List.drop_succ_cons, List.drop_zero]
            clear hHeld3
            go_wp2_with fail
            go_meet
            exact ⟨true, rfl, ⟨fun _ => HAT.out.2 ⟨hv0, .inr (.inl HVI.out)⟩, fun _ => by simp⟩, Q2⟩
          · have ti : (v == 4611686018427387904) = false := by simpa using hvi
            obtain ⟨rb, hrb2⟩ : ∃ b : Bool, (b = true ↔ Rep7 z1 p1 i1 z2 p2 i2 q L t k) := by
              by_cases h : Rep7 z1 p1 i1 z2 p2 i2 q L t k
              · exact ⟨true, ⟨fun _ => h, fun _ => rfl⟩⟩
              · exact ⟨false, ⟨fun q => (by cases q), fun k => absurd k h⟩⟩
            have HRB := Lib.hid hrb2
            clear hrb2
            refine wp_region_keeps (fun u => (u.cell? ⟨w.heap.size, 0, none⟩ = some (.slice a1 n1 cap1) ∧ u.cell? ⟨w.heap.size, 1, none⟩ = some (.int .i64 p1) ∧ u.cell? ⟨w.heap.size, 2, none⟩ = some (.int .i64 i1)) ∧ (u.cell? ⟨w.heap.size + 1, 0, none⟩ = some (.slice a2 n2 cap2) ∧ u.cell? ⟨w.heap.size + 1, 1, none⟩ = some (.int .i64 p2) ∧ u.cell? ⟨w.heap.size + 1, 2, none⟩ = some (.int .i64 i2)) ∧ Hid (C2 w a1 n1 cap1 z1 p1 i1 a2 n2 cap2 z2 p2 i2 u)) 27 1 (by kernel_rfl) (by kernel_rfl) (KS.out _ Q0.out) (fun hHeld0 => ?_)
            refine wpAnyK_take (i := 0) (v := ?_) rfl (by kernel_rfl) (fun _ _ _ h => h) (Or.inl ⟨by rfl, ?_⟩) (by assumption) ?_
            rotate_left
            · (intro w hSw; (try dsimp only at hSw); go_simp; try with_reducible rfl)
            try simp only [Act.put, List.getElem_toArray, List.getElem_cons_zero, List.getElem_cons_succ, List.setIfInBounds_toArray, List.set_cons_zero, List.set_cons_succ]
            refine wpAnyK_take (i := 1) (v := ?_) rfl (by kernel_rfl) (fun _ _ _ h => h) (Or.inl ⟨by rfl, ?_⟩) (by assumption) ?_
            rotate_left
            · (intro w hSw; (try dsimp only at hSw); go_simp; try with_reducible rfl)
            try simp only [Act.put, List.getElem_toArray, List.getElem_cons_zero, List.getElem_cons_succ, List.setIfInBounds_toArray, List.set_cons_zero, List.set_cons_succ]
            refine wpAnyK_take (i := 3) (v := ?_) rfl (by kernel_rfl) (fun _ _ _ h => h) (Or.inl ⟨by rfl, ?_⟩) (by assumption) ?_
            rotate_left
            · (intro w hSw; (try dsimp only at hSw); go_simp; try with_reducible rfl)
            try simp only [Act.put, List.getElem_toArray, List.getElem_cons_zero, List.getElem_cons_succ, List.setIfInBounds_toArray, List.set_cons_zero, List.set_cons_succ]
            refine wpAnyK_take (i := 4) (v := ?_) rfl (by kernel_rfl) (fun _ _ _ h => h) (Or.inl ⟨by rfl, ?_⟩) (by assumption) ?_
            rotate_left
            · (intro w hSw; (try dsimp only at hSw); go_simp; try with_reducible rfl)
            try simp only [Act.put, List.getElem_toArray, List.getElem_cons_zero, List.getElem_cons_succ, List.setIfInBounds_toArray, List.set_cons_zero, List.set_cons_succ]
            refine wpAnyK_take (i := 5) (v := ?_) rfl (by kernel_rfl) (fun _ _ _ h => h) (Or.inl ⟨by rfl, ?_⟩) (by assumption) ?_
            rotate_left
            · (intro w hSw; (try dsimp only at hSw); go_simp; try with_reducible rfl)
            try simp only [Act.put, List.getElem_toArray, List.getElem_cons_zero, List.getElem_cons_succ, List.setIfInBounds_toArray, List.set_cons_zero, List.set_cons_succ]
            refine wpAnyK_take (i := 6) (v := ?_) rfl (by kernel_rfl) (fun _ _ _ h => h) (Or.inl ⟨by rfl, ?_⟩) (by assumption) ?_
            rotate_left
            · (intro w hSw; (try dsimp only at hSw); go_simp; try with_reducible rfl)
            try simp only [Act.put, List.getElem_toArray, List.getElem_cons_zero, List.getElem_cons_succ, List.setIfInBounds_toArray, List.set_cons_zero, List.set_cons_succ]
            refine wpAnyK_take (i := 9) (v := ?_) rfl (by kernel_rfl) (fun _ _ _ h => h) (Or.inl ⟨by rfl, ?_⟩) (by assumption) ?_
            rotate_left
            · (intro w hSw; (try dsimp only at hSw); go_simp; try with_reducible rfl)
            try simp only [Act.put, List.getElem_toArray, List.getElem_cons_zero, List.getElem_cons_succ, List.setIfInBounds_toArray, List.set_cons_zero, List.set_cons_succ]
            refine wpAnyK_step (i := 2) rfl (by kernel_rfl) (fun K hK => ?_)
            go_simp
            with_reducible refine (rat_at a1 n1 cap1 z1 p1 i1 HG.out.1 k k rfl (by omega) vx HVV.out.1 _ Q0.out.f.row).mono ?_
            rintro e y1 ⟨rfl, hb⟩
            have Q1 := Lib.hid (Q0.out.call hb)
            clear hb
            refine hK.out _ _ (KS.out _ Q1.out) (fun hHeld1 => ?_)
            clear hK K hHeld0
            try simp only [Act.put, List.getElem_toArray, List.getElem_cons_zero, List.getElem_cons_succ, List.setIfInBounds_toArray, List.set_cons_zero, List.set_cons_succ]
            refine wpAnyK_step (i := 7) rfl (by kernel_rfl) (fun K hK => ?_)
            go_simp
            with_reducible refine (rat_at a2 n2 cap2 z2 p2 i2 HG.out.2 r r rfl (by omega) vy HVV.out.2.1 _ Q1.out.g.row).mono ?_
            rintro e y2 ⟨rfl, hb⟩
            have Q2 := Lib.hid (Q1.out.call hb)
            clear hb
            refine hK.out _ _ (KS.out _ Q2.out) (fun hHeld2 => ?_)
            clear hK K hHeld1
            try simp only [Act.put, List.getElem_toArray, List.getElem_cons_zero, List.getElem_cons_succ, List.setIfInBounds_toArray, List.set_cons_zero, List.set_cons_succ]
            refine wpAnyK_step (i := 8) rfl (by kernel_rfl) (fun K hK => ?_)
            go_simp
            with_reducible refine (plus7 vx vy MX.out.1 MX.out.2 vp HVV.out.2.2 _).mono ?_
            rintro e y3 ⟨rfl, rfl⟩

            refine hK.out _ _ (KS.out _ Q2.out) (fun hHeld3 => ?_)
            clear hK K hHeld2
            try simp only [Act.put, List.getElem_toArray, List.getElem_cons_zero, List.getElem_cons_succ, List.setIfInBounds_toArray, List.set_cons_zero, List.set_cons_succ]
            refine wpAnyK_take (i := 10) (v := ?_) rfl (by kernel_rfl) (fun _ _ _ h => h) (Or.inl ⟨by rfl, ?_⟩) (by assumption) ?_
            rotate_left
            · (intro w hSw; (try dsimp only at hSw); go_simp; try with_reducible rfl)
            try simp only [Act.put, List.getElem_toArray, List.getElem_cons_zero, List.getElem_cons_succ, List.setIfInBounds_toArray, List.set_cons_zero, List.set_cons_succ]
            refine wpAnyK_take (i := 11) (v := ?_) rfl (by kernel_rfl) (fun _ _ _ h => h) (Or.inl ⟨by rfl, ?_⟩) (by assumption) ?_
            rotate_left
            · (intro w hSw; (try dsimp only at hSw); go_simp; try with_reducible rfl)
            try simp only [Act.put, List.getElem_toArray, List.getElem_cons_zero, List.getElem_cons_succ, List.setIfInBounds_toArray, List.set_cons_zero, List.set_cons_succ]
            refine wpAnyK_take (i := 12) (v := ?_) rfl (by kernel_rfl) (fun _ _ _ h => h) (Or.inl ⟨by rfl, ?_⟩) (by assumption) ?_
            rotate_left
            · (intro w hSw; (try dsimp only at hSw); go_simp; try with_reducible rfl)
            try simp only [Act.put, List.getElem_toArray, List.getElem_cons_zero, List.getElem_cons_succ, List.setIfInBounds_toArray, List.set_cons_zero, List.set_cons_succ]
            refine wpAnyK_take (i := 13) (v := ?_) rfl (by kernel_rfl) (fun _ _ _ h => h) (Or.inl ⟨by rfl, ?_⟩) (by assumption) ?_
            rotate_left
            · (intro w hSw; (try dsimp only at hSw); go_simp; try with_reducible rfl)
            try simp only [Act.put, List.getElem_toArray, List.getElem_cons_zero, List.getElem_cons_succ, List.setIfInBounds_toArray, List.set_cons_zero, List.set_cons_succ]
            refine wpAnyK_take (i := 14) (v := ?_) rfl (by kernel_rfl) (fun _ _ _ h => h) (Or.inl ⟨by rfl, ?_⟩) (by assumption) ?_
            rotate_left
            · (intro w hSw; (try dsimp only at hSw); go_simp; try with_reducible rfl)
            try simp only [Act.put, List.getElem_toArray, List.getElem_cons_zero, List.getElem_cons_succ, List.setIfInBounds_toArray, List.set_cons_zero, List.set_cons_succ]
            refine wpAnyK_take (i := 15) (v := ?_) rfl (by kernel_rfl) (fun _ _ _ h => h) (Or.inl ⟨by rfl, ?_⟩) (by assumption) ?_
            rotate_left
            · (intro w hSw; (try dsimp only at hSw); go_simp; try with_reducible rfl)
            try simp only [Act.put, List.getElem_toArray, List.getElem_cons_zero, List.getElem_cons_succ, List.setIfInBounds_toArray, List.set_cons_zero, List.set_cons_succ]
            refine wpAnyK_take (i := 16) (v := ?_) rfl (by kernel_rfl) (fun _ _ _ h => h) (Or.inl ⟨by rfl, ?_⟩) (by assumption) ?_
            rotate_left
            · (intro w hSw; (try dsimp only at hSw); go_simp; try with_reducible rfl)
            try simp only [Act.put, List.getElem_toArray, List.getElem_cons_zero, List.getElem_cons_succ, List.setIfInBounds_toArray, List.set_cons_zero, List.set_cons_succ]
            refine wpAnyK_take (i := 17) (v := ?_) rfl (by kernel_rfl) (fun _ _ _ h => h) (Or.inl ⟨by rfl, ?_⟩) (by assumption) ?_
            rotate_left
            · (intro w hSw; (try dsimp only at hSw); go_simp; try with_reducible rfl)
            try simp only [Act.put, List.getElem_toArray, List.getElem_cons_zero, List.getElem_cons_succ, List.setIfInBounds_toArray, List.set_cons_zero, List.set_cons_succ]
            refine wpAnyK_take (i := 18) (v := ?_) rfl (by kernel_rfl) (fun _ _ _ h => h) (Or.inl ⟨by rfl, ?_⟩) (by assumption) ?_
            rotate_left
            · (intro w hSw; (try dsimp only at hSw); go_simp; try with_reducible rfl)
            try simp only [Act.put, List.getElem_toArray, List.getElem_cons_zero, List.getElem_cons_succ, List.setIfInBounds_toArray, List.set_cons_zero, List.set_cons_succ]
            refine wpAnyK_take (i := 19) (v := ?_) rfl (by kernel_rfl) (fun _ _ _ h => h) (Or.inl ⟨by rfl, ?_⟩) (by assumption) ?_
            rotate_left
            · (intro w hSw; (try dsimp only at hSw); go_simp; try with_reducible rfl)
            try simp only [Act.put, List.getElem_toArray, List.getElem_cons_zero, List.getElem_cons_succ, List.setIfInBounds_toArray, List.set_cons_zero, List.set_cons_succ]
            refine wpAnyK_take (i := 20) (v := ?_) rfl (by kernel_rfl) (fun _ _ _ h => h) (Or.inl ⟨by rfl, ?_⟩) (by assumption) ?_
            rotate_left
            · (intro w hSw; (try dsimp only at hSw); go_simp; try with_reducible rfl)
            try simp only [Act.put, List.getElem_toArray, List.getElem_cons_zero, List.getElem_cons_succ, List.setIfInBounds_toArray, List.set_cons_zero, List.set_cons_succ]
            refine wpAnyK_take (i := 21) (v := ?_) rfl (by kernel_rfl) (fun _ _ _ h => h) (Or.inl ⟨by rfl, ?_⟩) (by assumption) ?_
            rotate_left
            · (intro w hSw; (try dsimp only at hSw); go_simp; try with_reducible rfl)
            try simp only [Act.put, List.getElem_toArray, List.getElem_cons_zero, List.getElem_cons_succ, List.setIfInBounds_toArray, List.set_cons_zero, List.set_cons_succ]
            refine wpAnyK_take (i := 22) (v := ?_) rfl (by kernel_rfl) (fun _ _ _ h => h) (Or.inl ⟨by rfl, ?_⟩) (by assumption) ?_
            rotate_left
            · (intro w hSw; (try dsimp only at hSw); go_simp; try with_reducible rfl)
            try simp only [Act.put, List.getElem_toArray, List.getElem_cons_zero, List.getElem_cons_succ, List.setIfInBounds_toArray, List.set_cons_zero, List.set_cons_succ]
            refine wpAnyK_take (i := 23) (v := ?_) rfl (by kernel_rfl) (fun _ _ _ h => h) (Or.inl ⟨by rfl, ?_⟩) (by assumption) ?_
            rotate_left
            · (intro w hSw; (try dsimp only at hSw); go_simp; try with_reducible rfl)
            try simp only [Act.put, List.getElem_toArray, List.getElem_cons_zero, List.getElem_cons_succ, List.setIfInBounds_toArray, List.set_cons_zero, List.set_cons_succ]
            refine wpAnyK_take (i := 24) (v := ?_) rfl (by kernel_rfl) (fun _ _ _ h => h) (Or.inl ⟨by rfl, ?_⟩) (by assumption) ?_
            rotate_left
            · (intro w hSw; (try dsimp only at hSw); go_simp; try with_reducible rfl)
            try simp only [Act.put, List.getElem_toArray, List.getElem_cons_zero, List.getElem_cons_succ, List.setIfInBounds_toArray, List.set_cons_zero, List.set_cons_succ]
            refine wpAnyK_step (i := 25) rfl (by kernel_rfl) (fun K hK => ?_)
            go_simp
            with_reducible refine (repeats7 a1 n1 cap1 z1 p1 i1 HG.out.1 a2 n2 cap2 z2 p2 i2 HG.out.2 q L t k hL hlt (by omega) rb HRB.out _ Q2.out.f.row Q2.out.g.row).mono ?_
            rintro e y4 ⟨rfl, hb⟩
            have Q3 := Lib.hid (Q2.out.call hb)
            clear hb
            refine hK.out _ _ (KS.out _ Q3.out) (fun hHeld4 => ?_)
            clear hK K hHeld3
            try simp only [Act.put, List.getElem_toArray, List.getElem_cons_zero, List.getElem_cons_succ, List.setIfInBounds_toArray, List.set_cons_zero, List.set_cons_succ]
            refine wpAnyK_take (i := 26) (v := ?_) rfl (by kernel_rfl) (fun _ _ _ h => h) (Or.inl ⟨by rfl, ?_⟩) (by assumption) ?_
            rotate_left
            · (intro w hSw; (try dsimp only at hSw); go_simp; try with_reducible rfl)
            try simp only [Act.put, List.getElem_toArray, List.getElem_cons_zero, List.getElem_cons_succ, List.setIfInBounds_toArray, List.set_cons_zero, List.set_cons_succ]
            refine wpAnyK_done (by kernel_rfl) ?_
            simp only [List.drop_succ_cons, List.drop_zero]
            clear hHeld4
            go_wp2_with fail
            go_meet
            exact ⟨rb, rfl, ⟨fun h => HAT.out.2 ⟨hv0, .inr (.inr (HRB.out.1 h))⟩, fun h => HRB.out.2 ((HAT.out.1 h).2.resolve_left (fun h => (by cases h)) |>.resolve_left hvi)⟩, Q3⟩
      case rest =>
      obtain ⟨bb, rfl, HBB, T5⟩ := hcut
      obtain ⟨w5, rfl⟩ : ∃ u : World, u = wc := ⟨_, rfl⟩
      cases bb with
      | true =>
        go_wp2_with fail
        go_ret
        exact ⟨k, rfl, T5.out.below, .inr ⟨k, rfl, hlt, HBB.out.1 trivial, HNO.out⟩⟩
      | false =>
        go_wp2_with fail
        go_roundw
        case rel => exact ⟨k + 1, by go_num, by omega, HNN.out (fun h => by have := HBB.out.2 h; cases this), T5⟩
        case measure => simp [intOf]; omega
    · obtain rfl : k = t + 1 := by omega
      have hlt' : ¬ ((t + 1 : Nat) : Int) ≤ (t : Int) := by omega
      go_wp2_with fail
      go_ret
      exact ⟨-1, rfl, T1.out.below, .inl ⟨rfl, fun s hs => HNO.out s (by omega)⟩⟩

end Go.Proofs.Ythljhddnfflpjaa
