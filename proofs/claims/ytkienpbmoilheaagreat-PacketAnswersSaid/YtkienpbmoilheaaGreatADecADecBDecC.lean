/- The pair of a deconvolution: its block, a gain, a list of values, whether there is a bound, the extent. By the verifier's side. -/
import Derived.Test.YtkienpbmoilheaaGreatARowF
import Derived.Test.YtkienpbmoilheaaGreatAPwEKeepTPwFPwG
import Derived.BigRegion
import Derived.Test.YtkienpbmoilheaaGreatACurMToDecM
import Derived.Deep.LoopGhost
import Derived.Test.YtkienpbmoilheaaGreatARefA
namespace Go.Proofs.YtkienpbmoilheaaGreat
open Go.RowKit
set_option linter.unusedSimpArgs false
set_option linter.unusedVariables false

/-- Block b holds two curves, two lists and two numbers, and may be written. -/
structure Pd (w : World) (b : Nat) (x0 x1 x2 y0 y1 y2 l0 l1 n0 n1 : Value) : Prop where
  lo : Cur3 w b x0 x1 x2
  c3 : w.cell? ⟨b, 3, none⟩ = some y0
  c4 : w.cell? ⟨b, 4, none⟩ = some y1
  c5 : w.cell? ⟨b, 5, none⟩ = some y2
  c6 : w.cell? ⟨b, 6, none⟩ = some l0
  c7 : w.cell? ⟨b, 7, none⟩ = some l1
  c8 : w.cell? ⟨b, 8, none⟩ = some n0
  c9 : w.cell? ⟨b, 9, none⟩ = some n1
  f3 : w.frozen? ⟨b, 3, none⟩ = false
  f4 : w.frozen? ⟨b, 4, none⟩ = false
  f5 : w.frozen? ⟨b, 5, none⟩ = false
  f6 : w.frozen? ⟨b, 6, none⟩ = false
  f7 : w.frozen? ⟨b, 7, none⟩ = false
  f8 : w.frozen? ⟨b, 8, none⟩ = false
  f9 : w.frozen? ⟨b, 9, none⟩ = false
section
variable {w w' : World} {b : Nat} {x0 x1 x2 y0 y1 y2 l0 l1 n0 n1 : Value}
theorem Pd.lt (h : Pd w b x0 x1 x2 y0 y1 y2 l0 l1 n0 n1) : b < w.heap.size := h.lo.lt
theorem Pd.below (h : Pd w b x0 x1 x2 y0 y1 y2 l0 l1 n0 n1) (hb : Below w.heap.size w w') : Pd w' b x0 x1 x2 y0 y1 y2 l0 l1 n0 n1 :=
  ⟨h.lo.below hb, (hb.cell (p := ⟨b, 3, none⟩) h.lt).trans h.c3, (hb.cell (p := ⟨b, 4, none⟩) h.lt).trans h.c4, (hb.cell (p := ⟨b, 5, none⟩) h.lt).trans h.c5, (hb.cell (p := ⟨b, 6, none⟩) h.lt).trans h.c6, (hb.cell (p := ⟨b, 7, none⟩) h.lt).trans h.c7, (hb.cell (p := ⟨b, 8, none⟩) h.lt).trans h.c8, (hb.cell (p := ⟨b, 9, none⟩) h.lt).trans h.c9,
    (hb.frozen (p := ⟨b, 3, none⟩) h.lt).trans h.f3, (hb.frozen (p := ⟨b, 4, none⟩) h.lt).trans h.f4, (hb.frozen (p := ⟨b, 5, none⟩) h.lt).trans h.f5, (hb.frozen (p := ⟨b, 6, none⟩) h.lt).trans h.f6, (hb.frozen (p := ⟨b, 7, none⟩) h.lt).trans h.f7, (hb.frozen (p := ⟨b, 8, none⟩) h.lt).trans h.f8, (hb.frozen (p := ⟨b, 9, none⟩) h.lt).trans h.f9⟩
theorem Pd.other (h : Pd w b x0 x1 x2 y0 y1 y2 l0 l1 n0 n1) {q : Nat} (hq : ¬ b = q) (i : Nat) (v : Value) : Pd (w.setCell ⟨q, i, none⟩ v) b x0 x1 x2 y0 y1 y2 l0 l1 n0 n1 := by
  have hb : (w.setCell ⟨q, i, none⟩ v).heap[b]? = w.heap[b]? := Below.heap_setCell _ _ _ _ hq
  exact ⟨h.lo.other hq i v, (World.cell?_of_block (w := w) (a := ⟨b, 3, none⟩) hb).trans h.c3, (World.cell?_of_block (w := w) (a := ⟨b, 4, none⟩) hb).trans h.c4, (World.cell?_of_block (w := w) (a := ⟨b, 5, none⟩) hb).trans h.c5, (World.cell?_of_block (w := w) (a := ⟨b, 6, none⟩) hb).trans h.c6, (World.cell?_of_block (w := w) (a := ⟨b, 7, none⟩) hb).trans h.c7, (World.cell?_of_block (w := w) (a := ⟨b, 8, none⟩) hb).trans h.c8, (World.cell?_of_block (w := w) (a := ⟨b, 9, none⟩) hb).trans h.c9,
    (World.frozen?_of_block (w := w) (a := ⟨b, 3, none⟩) hb).trans h.f3, (World.frozen?_of_block (w := w) (a := ⟨b, 4, none⟩) hb).trans h.f4, (World.frozen?_of_block (w := w) (a := ⟨b, 5, none⟩) hb).trans h.f5, (World.frozen?_of_block (w := w) (a := ⟨b, 6, none⟩) hb).trans h.f6, (World.frozen?_of_block (w := w) (a := ⟨b, 7, none⟩) hb).trans h.f7, (World.frozen?_of_block (w := w) (a := ⟨b, 8, none⟩) hb).trans h.f8, (World.frozen?_of_block (w := w) (a := ⟨b, 9, none⟩) hb).trans h.f9⟩
theorem pd_new (w : World) (x0 x1 x2 y0 y1 y2 l0 l1 n0 n1 : Value) (t : TypeId) : Pd (w.alloc (.cells #[x0, x1, x2, y0, y1, y2, l0, l1, n0, n1] t)) w.heap.size x0 x1 x2 y0 y1 y2 l0 l1 n0 n1 :=
  ⟨⟨by go_simp, by go_simp, by go_simp, by go_simp, by go_simp, by go_simp⟩, by go_simp, by go_simp, by go_simp, by go_simp, by go_simp, by go_simp, by go_simp, by go_simp, by go_simp, by go_simp, by go_simp, by go_simp, by go_simp, by go_simp⟩
end

/-- The numbers and places that a pair holds. -/
structure PV where
  a1 : Option Addr
  n1 : Nat
  cap1 : Nat
  p1 : Nat
  i1 : Int
  a2 : Option Addr
  n2 : Nat
  cap2 : Nat
  p2 : Nat
  i2 : Int
  la : Nat
  lb : Nat
  L : Nat
  R : Nat
def PV.cells (P : PV) : Array Value := #[.slice P.a1 P.n1 P.cap1, .int .i64 P.p1, .int .i64 P.i1, .slice P.a2 P.n2 P.cap2, .int .i64 P.p2, .int .i64 P.i2, .slice (some ⟨P.la, 0, none⟩) 1040 1040, .slice (some ⟨P.lb, 0, none⟩) P.R P.R, .int .i64 P.L, .int .i64 P.R]
abbrev dpV (P : PV) : Value :=
  .agg #[.slice P.a1 P.n1 P.cap1, .int .i64 P.p1, .int .i64 P.i1, .slice P.a2 P.n2 P.cap2, .int .i64 P.p2, .int .i64 P.i2, .slice (some ⟨P.la, 0, none⟩) 1040 1040, .slice (some ⟨P.lb, 0, none⟩) P.R P.R, .int .i64 P.L, .int .i64 P.R]
abbrev PdB (w : World) (b : Nat) (P : PV) : Prop :=
  Pd w b (.slice P.a1 P.n1 P.cap1) (.int .i64 P.p1) (.int .i64 P.i1) (.slice P.a2 P.n2 P.cap2) (.int .i64 P.p2) (.int .i64 P.i2) (.slice (some ⟨P.la, 0, none⟩) 1040 1040) (.slice (some ⟨P.lb, 0, none⟩) P.R P.R) (.int .i64 P.L) (.int .i64 P.R)
abbrev dpO (P : PV) : Obj := .cells #[.slice P.a1 P.n1 P.cap1, .int .i64 P.p1, .int .i64 P.i1, .slice P.a2 P.n2 P.cap2, .int .i64 P.p2, .int .i64 P.i2, .slice (some ⟨P.la, 0, none⟩) 1040 1040, .slice (some ⟨P.lb, 0, none⟩) P.R P.R, .int .i64 P.L, .int .i64 P.R] 99

set_option maxHeartbeats 1600000 in
theorem gain_any (P : PV) (F G : Nat → Int) (ti ui : Int) (t u : Nat) (hti : ti = t) (hui : ui = u) (h1 : t + u < 1040) (h2 : u < P.R) (hR : P.R ≤ 1000) (hm : Mid (F (t + u))) (hg : 0 ≤ G u ∧ G u ≤ 1125899906842624) (v : Int) (hv : gainI F G t u = v) (w : World) (r1 : RowF w P.la 1040 F) (r2 : RowF w P.lb P.R G) :
    Calls Tryz.prog 97 #[dpV P, .int .i64 ti, .int .i64 ui] w (Says (.int .i64 v) w) := by
  subst hti hui
  obtain ⟨W, hW⟩ : ∃ W, w.alloc (dpO P) = W := ⟨_, rfl⟩
  have hB : Below w.heap.size w W := by rw [← hW]; exact (Below.refl _ _).alloc (Nat.le_refl _) _
  have HBl := Lib.hid hB
  have KP := Lib.hid (show PdB W w.heap.size P by rw [← hW]; exact pd_new w _ _ _ _ _ _ _ _ _ _ _)
  have HW := Lib.hid hW
  obtain ⟨n, hn⟩ : ∃ n, t + u = n := ⟨_, rfl⟩
  have hni : (t : Int) + (u : Int) = (n : Int) := by omega
  have hnw : IntKind.i64.wrap (n : Int) = (n : Int) := IntWalk.i64_in _ ⟨by omega, by omega⟩
  rw [hn] at hm h1
  obtain ⟨x, hx⟩ : ∃ x, F n = x := ⟨_, rfl⟩
  obtain ⟨y, hy⟩ : ∃ y, G u = y := ⟨_, rfl⟩
  have e1 := ((r1.under hB).cell n h1).1
  have e2 := ((r2.under hB).cell u h2).1
  unfold gainI at hv
  rw [hn, hx, hy] at hv
  rw [hx] at hm e1
  rw [hy] at hg e2
  have j1 : (n : Int) < 1040 := by omega
  have j2 : (u : Int) < (P.R : Int) := by omega
  clear hB r1 r2 hx hy hn hW
  by_cases hi : x = 4611686018427387904
  · subst hi
    rw [if_pos rfl] at hv
    subst hv
    go_enter Tryz.func97, Tryz.ntmps97
    go_upto_region 1 with fail
    try rw [HW.out]
    obtain ⟨⟨c0, c1, c2, f0, f1, f2⟩, c3, c4, c5, c6, c7, c8, c9, f3, f4, f5, f6, f7, f8, f9⟩ := KP.out
    go_wp2_with fail
    go_ret
    exact ⟨rfl, HBl.out⟩
  · rw [if_neg hi] at hv
    have t1 : (x == 4611686018427387904) = false := by simpa using hi
    have hw5 : IntKind.i64.wrap (x - y) = v := by rw [hv]; exact IntWalk.i64_in _ ⟨by rcases hm with h | h; exact absurd h hi; omega, by rcases hm with h | h; exact absurd h hi; omega⟩
    clear hi hv
    go_enter Tryz.func97, Tryz.ntmps97
    go_upto_region 1 with fail
    try rw [HW.out]
    obtain ⟨⟨c0, c1, c2, f0, f1, f2⟩, c3, c4, c5, c6, c7, c8, c9, f3, f4, f5, f6, f7, f8, f9⟩ := KP.out
    go_wp2_with fail
    go_ret
    exact ⟨rfl, HBl.out⟩

/-! ## A list of values -/

/-- While the list is filled: up to k. -/
structure LS (w : World) (zs : List Int) (p : Nat) (inc : Int) (a : Option Addr) (n cap B m k : Nat) (u : World) : Prop where
  lst : RowF u (w.heap.size + 1) m (fun i => if i < k then atC zs p inc i else 0)
  cl : ClosP u B a n cap zs p inc
  far : Far B a n (w.heap.size + 1)
  below : Below w.heap.size w u
section
variable {w u v : World} {zs : List Int} {p : Nat} {inc : Int} {a : Option Addr} {n cap B m k : Nat}
theorem LS.call (h : LS w zs p inc a n cap B m k u) (hb : Below u.heap.size u v) : LS w zs p inc a n cap B m k v := ⟨h.lst.under hb, h.cl.under hb, h.far, h.below.trans (hb.mono h.below.size)⟩
theorem LS.step (h : LS w zs p inc a n cap B m k u) (hk : k < m) {x : Int} (hx : atC zs p inc k = x) : LS w zs p inc a n cap B m (k + 1) (u.setCell ⟨w.heap.size + 1, k, none⟩ (.int .i64 x)) := by
  refine ⟨(h.lst.set hk x).congr fun i hi => ?_, h.cl.other h.far _ _, h.far, h.below.setCell (p := ⟨w.heap.size + 1, k, none⟩) (by show w.heap.size ≤ w.heap.size + 1; omega) _⟩
  by_cases e : i = k
  · subst e; rw [if_pos rfl, if_pos (Nat.lt_succ_self _)]; exact hx.symm
  · rw [if_neg e]
    by_cases e2 : i < k
    · rw [if_pos e2, if_pos (by omega)]
    · rw [if_neg e2, if_neg (by omega)]
end
theorem make_rowD (m : Nat) (hm : m ≤ 4000) (w : World) : (Instr.makeSlice 22 (.int .i64 (m : Int)) (.int .i64 (m : Int))).run Tryz.prog w = .ok (.slice (some ⟨w.heap.size, 0, none⟩) m m) (w.alloc (.cells (madeCells #[.int .i64 0] m) 3)) := by
  have := run_make_row' (P := Tryz.prog) 22 3 (.int .i64 0) 8 Tryz.underlying22 info_int rfl .i64 .i64 m (by omega) (by omega) w
  simpa using this

def GivesRow (F : Nat → Int) (m : Nat) (w : World) (e : Ending) (w' : World) : Prop :=
  ∃ lb : Nat, e = .returned (.slice (some ⟨lb, 0, none⟩) m m) ∧ Below w.heap.size w w' ∧ w.heap.size ≤ lb ∧ RowF w' lb m F

set_option maxHeartbeats 1600000 in
theorem listed_any (a : Option Addr) (n cap : Nat) (zs : List Int) (p : Nat) (inc : Int) (g : Good zs p inc) (mi : Int) (m : Nat) (hmi : mi = m) (hm : m ≤ 4000) (w : World) (h : RowZ w a n cap zs) :
    Calls Tryz.prog 96 #[curV a n cap p inc, .int .i64 mi] w (GivesRow (atC zs p inc) m w) := by
  subst hmi
  have hmk := make_rowD m hm
  obtain ⟨w1, hw1⟩ : ∃ W, w.alloc (.cells #[.slice a n cap, .int .i64 p, .int .i64 inc] 24) = W := ⟨_, rfl⟩
  obtain ⟨w2, hw2⟩ : ∃ W, w1.alloc (.cells (madeCells #[.int .i64 0] m) 3) = W := ⟨_, rfl⟩
  have hs1 : w1.heap.size = w.heap.size + 1 := by rw [← hw1]; simp
  have hb1 : Below w.heap.size w w1 := by rw [← hw1]; exact (Below.refl _ _).alloc (Nat.le_refl _) _
  have hb2 : Below w1.heap.size w1 w2 := by rw [← hw2]; exact (Below.refl _ _).alloc (Nat.le_refl _) _
  have hb3 : Below w.heap.size w w2 := hb1.trans (hb2.mono hb1.size)
  have hs2 : w2.heap.size = w.heap.size + 2 := by rw [← hw2]; simp; omega
  have CB := Lib.hid (show Cur3 w2 w.heap.size (.slice a n cap) (.int .i64 p) (.int .i64 inc) by
    have := (Cur3.new w (.slice a n cap) (.int .i64 p) (.int .i64 inc) 24)
    rw [hw1] at this; exact this.below hb2)
  have RW := Lib.hid (h.under hb3)
  have LW := Lib.hid (show RowF w2 (w.heap.size + 1) m (fun _ => 0) by rw [← hs1, ← hw2]; exact RowF.made w1 m)
  have HB := Lib.hid hb3
  have HS := Lib.hid (And.intro hs1 hs2)
  have FAR := Lib.hid h.far
  have G0 := Lib.hid g
  have HW1 := Lib.hid hw1
  have HW2 := Lib.hid hw2
  clear h g hb1 hb2 hb3 hs1 hs2 hw1 hw2
  go_enter Tryz.func96, Tryz.ntmps96
  go_upto_region 1 with fail
  try rw [HW1.out]
  go_upto_region 2 with fail
  try rw [HW2.out]
  try rw [HS.out.1]
  obtain ⟨c0, c1, c2, f0, f1, f2⟩ := CB.out
  go_wp2_with fail
  refine (pvalues_p a n cap zs p inc G0.out _ RW.out).mono ?_
  rintro e w3 ⟨B, rfl, hb, hlB, hmB, hcl⟩
  have Z0 := Lib.hid (show LS w zs p inc a n cap B m 0 w3 from ⟨(LW.out.under hb).congr fun i hi => by rw [if_neg (Nat.not_lt_zero _)], hcl, ⟨by have := HS.out.2; omega, by have := HS.out.2; omega, fun x hx hn => by have := FAR.out x hx hn; omega⟩, HB.out.trans (hb.mono HB.out.size)⟩)
  clear hb hlB hmB hcl c0 c1 c2 f0 f1 f2
  go_wp2_with fail
  clear hmk CB RW LW HB HS FAR HW1 HW2
  have EV := Lib.hid (show ∀ (args : Array Value) (w : World), (callFunc 76 args).run Tryz.prog w = .ok (.enter 76 args) w from enters_of Tryz.func76 (by kernel_rfl) rfl)
  go_loopw [14] (fun s14 wx => ∃ k : Nat, s14 = .int .i64 k ∧ k ≤ m ∧ Hid (LS w zs p inc a n cap B m k wx)) (fun s14 _ => m - (intOf s14).toNat)
  case atStart => exact ⟨0, by go_num, Nat.zero_le _, Z0⟩
  case round =>
    obtain ⟨k, rfl, hk, HS⟩ := hrel
    obtain ⟨wk, rfl⟩ : ∃ u : World, u = wr := ⟨_, rfl⟩
    by_cases hlt : k < m
    · have hlti : (k : Int) < (m : Int) := by omega
      obtain ⟨v, hv⟩ : ∃ v, atC zs p inc k = v := ⟨_, rfl⟩
      have HV := Lib.hid hv
      have ev := EV.out
      clear hv
      go_wp2_with fail
      with_reducible refine (atp_any B a n cap zs p inc k (by omega) _ HS.out.cl).mono ?_
      rintro e u3 ⟨rfl, hd⟩
      have HS1 := Lib.hid (HS.out.call (below_dr (Below.refl _ _) hd))
      clear hd
      rw [HV.out]
      have HS3 := Lib.hid (HS1.out.step hlt HV.out)
      obtain ⟨h1, h2⟩ := HS1.out.lst.cell k hlt
      clear ev
      go_wp2_with fail
      go_roundw
      case rel => exact ⟨k + 1, by go_num, by omega, HS3⟩
      case measure => simp [intOf]; omega
    · obtain rfl : k = m := by omega
      have hlti : ¬ (k : Int) < (k : Int) := by omega
      go_wp2_with fail
      go_ret
      exact ⟨w.heap.size + 1, rfl, HS.out.below, by omega, HS.out.lst.congr fun i hi => if_pos hi⟩

-- gen_dec
/-- What a pair says of its curves. -/
structure PIs (P : PV) (z1 z2 : List Int) : Prop where
  d : Dec z1 P.p1 P.i1 z2 P.p2 P.i2 P.L
  n1 : NormC z1 P.p1 P.i1 z1 P.p1 P.i1
  n2 : NormC z2 P.p2 P.i2 z2 P.p2 P.i2
  r : P.R = reach z1 P.p1 z2 P.p2 P.L
/-- Its lists stand. -/
structure PIn (P : PV) (z1 z2 : List Int) (w : World) : Prop where
  r1 : RowZ w P.a1 P.n1 P.cap1 z1
  r2 : RowZ w P.a2 P.n2 P.cap2 z2
  f : RowF w P.la 1040 (atC z1 P.p1 P.i1)
  s : RowF w P.lb P.R (atC z2 P.p2 P.i2)
theorem PIn.under {P : PV} {z1 z2 : List Int} {w v : World} (h : PIn P z1 z2 w) (hb : Below w.heap.size w v) : PIn P z1 z2 v := ⟨h.r1.under hb, h.r2.under hb, h.f.under hb, h.s.under hb⟩
theorem pair_box {P : PV} {w W : World} (hW : w.alloc (dpO P) = W) : Below w.heap.size w W ∧ PdB W w.heap.size P ∧ W.heap.size = w.heap.size + 1 := by
  rw [← hW]; exact ⟨(Below.refl _ _).alloc (Nat.le_refl _) _, pd_new w _ _ _ _ _ _ _ _ _ _ _, by simp⟩

set_option maxHeartbeats 1600000 in
theorem unbounded_any (P : PV) (z1 z2 : List Int) (hP : PIs P z1 z2) (b : Bool) (hb : b = true ↔ Steep z1 P.p1 P.i1 z2 P.p2 P.i2 P.L) (w : World) (h : PIn P z1 z2 w) :
    Calls Tryz.prog 81 #[dpV P] w (Says (.bool b) w) := by
  obtain ⟨W, hW⟩ : ∃ W, w.alloc (dpO P) = W := ⟨_, rfl⟩
  obtain ⟨hB, kp, _⟩ := pair_box hW
  have HB := Lib.hid hB
  have KP := Lib.hid kp
  have HI := Lib.hid (h.under hB)
  have HW := Lib.hid hW
  have HP := Lib.hid hP
  obtain ⟨x, hx⟩ : ∃ x, growI z1 P.p1 P.i1 P.L = x := ⟨_, rfl⟩
  obtain ⟨y, hy⟩ : ∃ y, growI z2 P.p2 P.i2 P.L = y := ⟨_, rfl⟩
  have HX := Lib.hid hx
  have HY := Lib.hid hy
  have hst : Steep z1 P.p1 P.i1 z2 P.p2 P.i2 P.L ↔ (¬ x = infV ∧ y < x) := by
    have b1 := grow_low hP.d.g hP.d.l
    have b2 := grow_low hP.d.k hP.d.l
    rw [← hx, ← hy]
    refine ⟨fun ⟨f1, f2, hl⟩ => ⟨?_, hl⟩, fun ⟨e, hl⟩ => ⟨fun i => e (growI_inf i _ _ _), fun i => ?_, hl⟩⟩
    · rw [growI_fin f1]
      have := (fin_low hP.d.g f1 hP.d.l).1
      unfold infV; omega
    · rw [growI_inf i] at hl
      have : growI z1 P.p1 P.i1 P.L ≤ infV := by unfold infV at b1 ⊢; omega
      omega
  rw [hst] at hb
  clear hst hx hy h hP hW hB kp
  by_cases hi : x = 4611686018427387904
  · have hbf : b = false := by cases b with
      | false => rfl
      | true => exact absurd hi (hb.1 rfl).1
    subst hbf
    have t1 : (x != 4611686018427387904) = false := by simpa using hi
    clear hb
    go_enter Tryz.func81, Tryz.ntmps81
    go_upto_region 1 with fail
    try rw [HW.out]
    obtain ⟨⟨c0, c1, c2, f0, f1, f2⟩, c3, c4, c5, c6, c7, c8, c9, f3, f4, f5, f6, f7, f8, f9⟩ := KP.out
    go_wp2_with fail
    with_reducible refine (growth_any P.a1 P.n1 P.cap1 z1 P.p1 P.i1 HP.out.d.g P.L HP.out.d.l x HX.out _ HI.out.r1).mono ?_
    rintro e w1 ⟨rfl, hb1⟩
    have HB1 := Lib.hid (HB.out.trans (hb1.mono HB.out.size))
    clear hb1 c0 c1 c2 f0 f1 f2 c3 c4 c5 c6 c7 c8 c9 f3 f4 f5 f6 f7 f8 f9
    subst hi
    go_wp2_with fail
    go_ret
    exact ⟨rfl, HB1.out⟩
  · have t1 : (x != 4611686018427387904) = true := by simpa using hi
    have hcase : (y < x ∧ b = true) ∨ (¬ y < x ∧ b = false) := by
      by_cases hl : y < x
      · exact .inl ⟨hl, hb.2 ⟨hi, hl⟩⟩
      · refine .inr ⟨hl, ?_⟩
        cases b with
        | false => rfl
        | true => exact absurd (hb.1 rfl).2 hl
    clear hb hi
    rcases hcase with ⟨hl, rfl⟩ | ⟨hl, rfl⟩
    all_goals
      have t2 := hl
      first | have t3 : decide (y < x) = true := decide_eq_true hl | have t3 : decide (y < x) = false := decide_eq_false hl
      go_enter Tryz.func81, Tryz.ntmps81
      go_upto_region 1 with fail
      try rw [HW.out]
      obtain ⟨⟨c0, c1, c2, f0, f1, f2⟩, c3, c4, c5, c6, c7, c8, c9, f3, f4, f5, f6, f7, f8, f9⟩ := KP.out
      go_wp2_with fail
      with_reducible refine (growth_any P.a1 P.n1 P.cap1 z1 P.p1 P.i1 HP.out.d.g P.L HP.out.d.l x HX.out _ HI.out.r1).mono ?_
      rintro e w1 ⟨rfl, hb1⟩
      have HB1 := Lib.hid (HB.out.trans (hb1.mono HB.out.size))
      have HI1 := Lib.hid (HI.out.under hb1)
      clear c0 c1 c2 f0 f1 f2 c3 c4 c5 c6 c7 c8 c9 f3 f4 f5 f6 f7 f8 f9
      obtain ⟨⟨c0, c1, c2, f0, f1, f2⟩, c3, c4, c5, c6, c7, c8, c9, f3, f4, f5, f6, f7, f8, f9⟩ := KP.out.below hb1
      clear hb1
      go_wp2_with fail
      with_reducible refine (growth_any P.a2 P.n2 P.cap2 z2 P.p2 P.i2 HP.out.d.k P.L HP.out.d.l y HY.out _ HI1.out.r2).mono ?_
      rintro e w2 ⟨rfl, hb2⟩
      have HB2 := Lib.hid (HB1.out.trans (hb2.mono HB1.out.size))
      clear hb2 c0 c1 c2 f0 f1 f2 c3 c4 c5 c6 c7 c8 c9 f3 f4 f5 f6 f7 f8 f9
      go_wp2_with fail
      go_ret
      exact ⟨rfl, HB2.out⟩

/-- While the pair and a curve stand in two boxes. -/
structure TwoH (w : World) (P : PV) (z1 z2 : List Int) (ha : Option Addr) (hn hcap : Nat) (hs : List Int) (r : Nat) (knc : Int) (u : World) : Prop where
  pr : PdB u w.heap.size P
  hc : Cur3 u (w.heap.size + 1) (.slice ha hn hcap) (.int .i64 r) (.int .i64 knc)
  hr : RowZ u ha hn hcap hs
  i : PIn P z1 z2 u
  below : Below w.heap.size w u
theorem TwoH.call {w u v : World} {P : PV} {z1 z2 : List Int} {ha : Option Addr} {hn hcap : Nat} {hs : List Int} {r : Nat} {knc : Int} (h : TwoH w P z1 z2 ha hn hcap hs r knc u) (hb : Below u.heap.size u v) : TwoH w P z1 z2 ha hn hcap hs r knc v := ⟨h.pr.below hb, h.hc.below hb, h.hr.under hb, h.i.under hb, h.below.trans (hb.mono h.below.size)⟩
theorem twoH_start {w W : World} {P : PV} {z1 z2 : List Int} {ha : Option Addr} {hn hcap : Nat} {hs : List Int} {r : Nat} {knc : Int} (h : PIn P z1 z2 w) (hr : RowZ w ha hn hcap hs) (hW : (w.alloc (dpO P)).alloc (.cells #[.slice ha hn hcap, .int .i64 r, .int .i64 knc] 24) = W) : TwoH w P z1 z2 ha hn hcap hs r knc W := by
  rw [← hW]
  obtain ⟨h1, h2, h3⟩ := pair_box (P := P) (w := w) rfl
  have hy := (Below.refl (w.alloc (dpO P)).heap.size (w.alloc (dpO P))).alloc (Nat.le_refl _) (.cells #[.slice ha hn hcap, .int .i64 r, .int .i64 knc] 24)
  refine ⟨h2.below hy, ?_, (hr.under h1).under hy, (h.under h1).under hy, h1.trans (hy.mono h1.size)⟩
  have := Cur3.new (w.alloc (dpO P)) (.slice ha hn hcap) (.int .i64 r) (.int .i64 knc) 24
  rwa [h3] at this
abbrev TwoHS (w : World) (P : PV) (z1 z2 : List Int) (ha : Option Addr) (hn hcap : Nat) (hs : List Int) (r : Nat) (knc : Int) (u : World) : Prop :=
  u.cell? ⟨w.heap.size, 0, none⟩ = some (.slice P.a1 P.n1 P.cap1) ∧ u.cell? ⟨w.heap.size, 1, none⟩ = some (.int .i64 P.p1) ∧ u.cell? ⟨w.heap.size, 2, none⟩ = some (.int .i64 P.i1) ∧ u.cell? ⟨w.heap.size + 1, 0, none⟩ = some (.slice ha hn hcap) ∧ u.cell? ⟨w.heap.size + 1, 1, none⟩ = some (.int .i64 r) ∧ u.cell? ⟨w.heap.size + 1, 2, none⟩ = some (.int .i64 knc) ∧ Hid (TwoH w P z1 z2 ha hn hcap hs r knc u)
theorem twoHS_of {w u : World} {P : PV} {z1 z2 : List Int} {ha : Option Addr} {hn hcap : Nat} {hs : List Int} {r : Nat} {knc : Int} (h : TwoH w P z1 z2 ha hn hcap hs r knc u) : TwoHS w P z1 z2 ha hn hcap hs r knc u := ⟨h.pr.lo.c0, h.pr.lo.c1, h.pr.lo.c2, h.hc.c0, h.hc.c1, h.hc.c2, h⟩

set_option maxRecDepth 100000 in
set_option maxHeartbeats 3200000 in
theorem extent_any (P : PV) (z1 z2 : List Int) (ha : Option Addr) (hn hcap : Nat) (hs : List Int) (r : Nat) (knc : Int) (hP : PIs P z1 z2) (hg : Good hs r knc) (hnn : NormC hs r knc hs r knc) (x : Nat) (hx : max (z1.length - P.p1) (hs.length - r) + P.p1 = x) (w : World) (h : PIn P z1 z2 w) (hr : RowZ w ha hn hcap hs) :
    Calls Tryz.prog 84 #[dpV P, curV ha hn hcap r knc] w (Says (.int .i64 x) w) := by
  obtain ⟨W, hW⟩ : ∃ W, (w.alloc (dpO P)).alloc (.cells #[.slice ha hn hcap, .int .i64 r, .int .i64 knc] 24) = W := ⟨_, rfl⟩
  have T0 := Lib.hid (show TwoH w P z1 z2 ha hn hcap hs r knc W.drew from (twoH_start h hr hW).call (Below.refl _ _).drew)
  have HW := Lib.hid hW
  have HP := Lib.hid hP
  have HG := Lib.hid (And.intro hg hnn)
  obtain ⟨s, hs1⟩ : ∃ s, z1.length - P.p1 = s := ⟨_, rfl⟩
  obtain ⟨k, hk1⟩ : ∃ k, hs.length - r = k := ⟨_, rfl⟩
  rw [hs1, hk1] at hx
  have b1 : s ≤ 400 := by have := hP.d.g.few; omega
  have b2 : k ≤ 400 := by have := hg.few; omega
  have b3 : P.p1 ≤ 120 := hP.d.g.p2
  have HS := Lib.hid (show z1.length = s + P.p1 by have := hP.d.g.p3; omega)
  have HK := Lib.hid (show hs.length = k + r by have := hg.p3; omega)
  have hcase : (s < k ∧ max s k = k ∧ k + P.p1 = x) ∨ (¬ s < k ∧ max s k = s ∧ s + P.p1 = x) := by omega
  have tt := twoH_start h hr hW
  obtain ⟨⟨c0, c1, c2, f0, f1, f2⟩, _⟩ := tt.pr
  obtain ⟨d0, d1, d2, g0, g1, g2⟩ := tt.hc
  clear hP hg hnn h hr hW hs1 hk1 hx tt
  rcases hcase with ⟨hl, hm, hx⟩ | ⟨hl, hm, hx⟩
  · have t1 := hl
    have t2 : ¬ (k : Int) < (s : Int) := by omega
    have t1i : (s : Int) < (k : Int) := by omega
    have t3 : decide ((s : Int) < (k : Int)) = true := decide_eq_true t1i
    have hxi : (k : Int) + (P.p1 : Int) = (x : Int) := by omega
    have hxw : IntKind.i64.wrap (x : Int) = (x : Int) := IntWalk.i64_in _ ⟨by omega, by omega⟩
    clear hl hm hx
    go_enter Tryz.func84, Tryz.ntmps84
    go_upto_region 1 with fail
    try rw [HW.out]
    clear c0 c1 c2 f0 f1 f2 d0 d1 d2 g0 g1 g2
    refine wp_region_keeps (fun u => TwoHS w P z1 z2 ha hn hcap hs r knc u) 10 1 (by kernel_rfl) (by kernel_rfl) (twoHS_of T0.out) (fun hHeld0 => ?_)
    refine wpAnyK_take (i := 0) (v := ?_) rfl (by kernel_rfl) (fun _ _ _ h => h) (Or.inl ⟨by rfl, ?_⟩) (by assumption) ?_
    rotate_left
    · (intro w hSw; (try dsimp only at hSw); go_simp; try with_reducible rfl)
    try simp only [Act.put, List.getElem_toArray, List.getElem_cons_zero, List.getElem_cons_succ, List.setIfInBounds_toArray, List.set_cons_zero, List.set_cons_succ]
    refine wpAnyK_take (i := 1) (v := ?_) rfl (by kernel_rfl) (fun _ _ _ h => h) (Or.inl ⟨by rfl, ?_⟩) (by assumption) ?_
    rotate_left
    · (intro w hSw; (try dsimp only at hSw); go_simp; try with_reducible rfl)
    try simp only [Act.put, List.getElem_toArray, List.getElem_cons_zero, List.getElem_cons_succ, List.setIfInBounds_toArray, List.set_cons_zero, List.set_cons_succ]
    refine wpAnyK_take (i := 3) (v := ?_) rfl (by kernel_rfl) (fun _ _ _ h => h) (Or.inl ⟨by rfl, ?_⟩) (by assumption) ?_
    rotate_left
    · (intro w hSw; (try dsimp only at hSw); go_simp; try with_reducible rfl)
    try simp only [Act.put, List.getElem_toArray, List.getElem_cons_zero, List.getElem_cons_succ, List.setIfInBounds_toArray, List.set_cons_zero, List.set_cons_succ]
    refine wpAnyK_take (i := 6) (v := ?_) rfl (by kernel_rfl) (fun _ _ _ h => h) (Or.inl ⟨by rfl, ?_⟩) (by assumption) ?_
    rotate_left
    · (intro w hSw; (try dsimp only at hSw); go_simp; try with_reducible rfl)
    try simp only [Act.put, List.getElem_toArray, List.getElem_cons_zero, List.getElem_cons_succ, List.setIfInBounds_toArray, List.set_cons_zero, List.set_cons_succ]
    refine wpAnyK_take (i := 7) (v := ?_) rfl (by kernel_rfl) (fun _ _ _ h => h) (Or.inl ⟨by rfl, ?_⟩) (by assumption) ?_
    rotate_left
    · (intro w hSw; (try dsimp only at hSw); go_simp; try with_reducible rfl)
    try simp only [Act.put, List.getElem_toArray, List.getElem_cons_zero, List.getElem_cons_succ, List.setIfInBounds_toArray, List.set_cons_zero, List.set_cons_succ]
    refine wpAnyK_take (i := 8) (v := ?_) rfl (by kernel_rfl) (fun _ _ _ h => h) (Or.inl ⟨by rfl, ?_⟩) (by assumption) ?_
    rotate_left
    · (intro w hSw; (try dsimp only at hSw); go_simp; try with_reducible rfl)
    try simp only [Act.put, List.getElem_toArray, List.getElem_cons_zero, List.getElem_cons_succ, List.setIfInBounds_toArray, List.set_cons_zero, List.set_cons_succ]
    refine wpAnyK_step (i := 2) rfl (by kernel_rfl) (fun K hK => ?_)
    go_simp
    with_reducible refine (start_i P.a1 P.n1 P.cap1 z1 P.p1 P.i1 HP.out.d.g HP.out.n1 s HS.out _ T0.out.i.r1).mono ?_
    rintro e u3 ⟨rfl, hb⟩
    have T1 := Lib.hid (T0.out.call hb)
    clear hb
    refine hK.out _ _ (twoHS_of T1.out) (fun hHeld1 => ?_)
    clear hK K hHeld0
    try simp only [Act.put, List.getElem_toArray, List.getElem_cons_zero, List.getElem_cons_succ, List.setIfInBounds_toArray, List.set_cons_zero, List.set_cons_succ]
    refine wpAnyK_step (i := 4) rfl (by kernel_rfl) (fun K hK => ?_)
    go_simp
    with_reducible refine (start_i ha hn hcap hs r knc HG.out.1 HG.out.2 k HK.out _ T1.out.hr).mono ?_
    rintro e u4 ⟨rfl, hb⟩
    have T2 := Lib.hid (T1.out.call hb)
    clear hb
    refine hK.out _ _ (twoHS_of T2.out) (fun hHeld2 => ?_)
    clear hK K hHeld1
    try simp only [Act.put, List.getElem_toArray, List.getElem_cons_zero, List.getElem_cons_succ, List.setIfInBounds_toArray, List.set_cons_zero, List.set_cons_succ]
    refine wpAnyK_take (i := 5) (v := ?_) rfl (by kernel_rfl) (fun _ _ _ h => h) (Or.inl ⟨by rfl, ?_⟩) (by assumption) ?_
    rotate_left
    · (intro w hSw; (try dsimp only at hSw); go_simp; try with_reducible rfl)
    try simp only [Act.put, List.getElem_toArray, List.getElem_cons_zero, List.getElem_cons_succ, List.setIfInBounds_toArray, List.set_cons_zero, List.set_cons_succ]
    refine wpAnyK_take (i := 9) (v := ?_) rfl (by kernel_rfl) (fun _ _ _ h => h) (Or.inl ⟨by rfl, ?_⟩) (by assumption) ?_
    rotate_left
    · (intro w hSw; (try dsimp only at hSw); go_simp; try with_reducible rfl)
    try simp only [Act.put, List.getElem_toArray, List.getElem_cons_zero, List.getElem_cons_succ, List.setIfInBounds_toArray, List.set_cons_zero, List.set_cons_succ]
    refine wpAnyK_done (by kernel_rfl) ?_
    simp only [List.drop_succ_cons, List.drop_zero]
    clear hHeld2
    go_wp2_with fail
    go_ret
    exact ⟨rfl, T2.out.below⟩
  · have t1 := hl

    have t1i : ¬ (s : Int) < (k : Int) := by omega
    have t3 : decide ((s : Int) < (k : Int)) = false := decide_eq_false t1i
    have hxi : (s : Int) + (P.p1 : Int) = (x : Int) := by omega
    have hxw : IntKind.i64.wrap (x : Int) = (x : Int) := IntWalk.i64_in _ ⟨by omega, by omega⟩
    clear hl hm hx
    go_enter Tryz.func84, Tryz.ntmps84
    go_upto_region 1 with fail
    try rw [HW.out]
    clear c0 c1 c2 f0 f1 f2 d0 d1 d2 g0 g1 g2
    refine wp_region_keeps (fun u => TwoHS w P z1 z2 ha hn hcap hs r knc u) 10 1 (by kernel_rfl) (by kernel_rfl) (twoHS_of T0.out) (fun hHeld0 => ?_)
    refine wpAnyK_take (i := 0) (v := ?_) rfl (by kernel_rfl) (fun _ _ _ h => h) (Or.inl ⟨by rfl, ?_⟩) (by assumption) ?_
    rotate_left
    · (intro w hSw; (try dsimp only at hSw); go_simp; try with_reducible rfl)
    try simp only [Act.put, List.getElem_toArray, List.getElem_cons_zero, List.getElem_cons_succ, List.setIfInBounds_toArray, List.set_cons_zero, List.set_cons_succ]
    refine wpAnyK_take (i := 1) (v := ?_) rfl (by kernel_rfl) (fun _ _ _ h => h) (Or.inl ⟨by rfl, ?_⟩) (by assumption) ?_
    rotate_left
    · (intro w hSw; (try dsimp only at hSw); go_simp; try with_reducible rfl)
    try simp only [Act.put, List.getElem_toArray, List.getElem_cons_zero, List.getElem_cons_succ, List.setIfInBounds_toArray, List.set_cons_zero, List.set_cons_succ]
    refine wpAnyK_take (i := 3) (v := ?_) rfl (by kernel_rfl) (fun _ _ _ h => h) (Or.inl ⟨by rfl, ?_⟩) (by assumption) ?_
    rotate_left
    · (intro w hSw; (try dsimp only at hSw); go_simp; try with_reducible rfl)
    try simp only [Act.put, List.getElem_toArray, List.getElem_cons_zero, List.getElem_cons_succ, List.setIfInBounds_toArray, List.set_cons_zero, List.set_cons_succ]
    refine wpAnyK_take (i := 6) (v := ?_) rfl (by kernel_rfl) (fun _ _ _ h => h) (Or.inl ⟨by rfl, ?_⟩) (by assumption) ?_
    rotate_left
    · (intro w hSw; (try dsimp only at hSw); go_simp; try with_reducible rfl)
    try simp only [Act.put, List.getElem_toArray, List.getElem_cons_zero, List.getElem_cons_succ, List.setIfInBounds_toArray, List.set_cons_zero, List.set_cons_succ]
    refine wpAnyK_take (i := 7) (v := ?_) rfl (by kernel_rfl) (fun _ _ _ h => h) (Or.inl ⟨by rfl, ?_⟩) (by assumption) ?_
    rotate_left
    · (intro w hSw; (try dsimp only at hSw); go_simp; try with_reducible rfl)
    try simp only [Act.put, List.getElem_toArray, List.getElem_cons_zero, List.getElem_cons_succ, List.setIfInBounds_toArray, List.set_cons_zero, List.set_cons_succ]
    refine wpAnyK_take (i := 8) (v := ?_) rfl (by kernel_rfl) (fun _ _ _ h => h) (Or.inl ⟨by rfl, ?_⟩) (by assumption) ?_
    rotate_left
    · (intro w hSw; (try dsimp only at hSw); go_simp; try with_reducible rfl)
    try simp only [Act.put, List.getElem_toArray, List.getElem_cons_zero, List.getElem_cons_succ, List.setIfInBounds_toArray, List.set_cons_zero, List.set_cons_succ]
    refine wpAnyK_step (i := 2) rfl (by kernel_rfl) (fun K hK => ?_)
    go_simp
    with_reducible refine (start_i P.a1 P.n1 P.cap1 z1 P.p1 P.i1 HP.out.d.g HP.out.n1 s HS.out _ T0.out.i.r1).mono ?_
    rintro e u3 ⟨rfl, hb⟩
    have T1 := Lib.hid (T0.out.call hb)
    clear hb
    refine hK.out _ _ (twoHS_of T1.out) (fun hHeld1 => ?_)
    clear hK K hHeld0
    try simp only [Act.put, List.getElem_toArray, List.getElem_cons_zero, List.getElem_cons_succ, List.setIfInBounds_toArray, List.set_cons_zero, List.set_cons_succ]
    refine wpAnyK_step (i := 4) rfl (by kernel_rfl) (fun K hK => ?_)
    go_simp
    with_reducible refine (start_i ha hn hcap hs r knc HG.out.1 HG.out.2 k HK.out _ T1.out.hr).mono ?_
    rintro e u4 ⟨rfl, hb⟩
    have T2 := Lib.hid (T1.out.call hb)
    clear hb
    refine hK.out _ _ (twoHS_of T2.out) (fun hHeld2 => ?_)
    clear hK K hHeld1
    try simp only [Act.put, List.getElem_toArray, List.getElem_cons_zero, List.getElem_cons_succ, List.setIfInBounds_toArray, List.set_cons_zero, List.set_cons_succ]
    refine wpAnyK_take (i := 5) (v := ?_) rfl (by kernel_rfl) (fun _ _ _ h => h) (Or.inl ⟨by rfl, ?_⟩) (by assumption) ?_
    rotate_left
    · (intro w hSw; (try dsimp only at hSw); go_simp; try with_reducible rfl)
    try simp only [Act.put, List.getElem_toArray, List.getElem_cons_zero, List.getElem_cons_succ, List.setIfInBounds_toArray, List.set_cons_zero, List.set_cons_succ]
    refine wpAnyK_take (i := 9) (v := ?_) rfl (by kernel_rfl) (fun _ _ _ h => h) (Or.inl ⟨by rfl, ?_⟩) (by assumption) ?_
    rotate_left
    · (intro w hSw; (try dsimp only at hSw); go_simp; try with_reducible rfl)
    try simp only [Act.put, List.getElem_toArray, List.getElem_cons_zero, List.getElem_cons_succ, List.setIfInBounds_toArray, List.set_cons_zero, List.set_cons_succ]
    refine wpAnyK_done (by kernel_rfl) ?_
    simp only [List.drop_succ_cons, List.drop_zero]
    clear hHeld2
    go_wp2_with fail
    go_ret
    exact ⟨rfl, T2.out.below⟩

end Go.Proofs.YtkienpbmoilheaaGreat

namespace Go.Proofs.YtkienpbmoilheaaGreat
open Go.RowKit
set_option linter.unusedSimpArgs false
set_option linter.unusedVariables false

/-- What a pair holds lies in old blocks. -/
structure PFar (P : PV) (B : Nat) : Prop where
  f1 : ∀ x, P.a1 = some x → 1 ≤ P.n1 → x.block < B
  f2 : ∀ x, P.a2 = some x → 1 ≤ P.n2 → x.block < B
  la : P.la < B
  lb : P.lb < B
theorem PIn.far {P : PV} {z1 z2 : List Int} {w : World} (h : PIn P z1 z2 w) : PFar P w.heap.size := ⟨fun x a b => h.r1.far x a b, fun x a b => h.r2.far x a b, h.f.lt, h.s.lt⟩
theorem PIn.other {P : PV} {z1 z2 : List Int} {w : World} (h : PIn P z1 z2 w) {B b : Nat} (hf : PFar P B) (hb : B ≤ b) (i : Nat) (v : Value) : PIn P z1 z2 (w.setCell ⟨b, i, none⟩ v) := by
  have := hf.la; have := hf.lb
  exact ⟨h.r1.store (fun x hx hn => by have := hf.f1 x hx hn; omega) _ _, h.r2.store (fun x hx hn => by have := hf.f2 x hx hn; omega) _ _, h.f.other (by omega) _ _, h.s.other (by omega) _ _⟩

/-- While the bounds are listed: lv the values, la the places; at the tick t so far x and k. -/
structure BD (w : World) (P : PV) (z1 z2 : List Int) (V : Nat → Int) (A : Nat → Nat) (N lv la t : Nat) (x : Int) (k : Nat) (u : World) : Prop where
  pr : PdB u w.heap.size P
  i : PIn P z1 z2 u
  far : PFar P w.heap.size
  vs : RowF u lv N (fun i => if i < t then V i else if i = t then x else 0)
  ats : RowF u la N (fun i => if i < t then ((A i : Nat) : Int) else if i = t then ((k : Nat) : Int) else 0)
  ne : ¬ lv = la
  l1 : w.heap.size < lv
  l2 : w.heap.size < la
  below : Below w.heap.size w u
section
variable {w u v : World} {P : PV} {z1 z2 : List Int} {V : Nat → Int} {A : Nat → Nat} {N lv la t : Nat} {x : Int} {k : Nat}
theorem BD.call (h : BD w P z1 z2 V A N lv la t x k u) (hb : Below u.heap.size u v) : BD w P z1 z2 V A N lv la t x k v :=
  ⟨h.pr.below hb, h.i.under hb, h.far, h.vs.under hb, h.ats.under hb, h.ne, h.l1, h.l2, h.below.trans (hb.mono h.below.size)⟩
theorem BD.put (h : BD w P z1 z2 V A N lv la t x k u) (ht : t < N) (y : Int) (m : Nat) : BD w P z1 z2 V A N lv la t y m ((u.setCell ⟨lv, t, none⟩ (.int .i64 y)).setCell ⟨la, t, none⟩ (.int .i64 m)) := by
  have l1 := h.l1
  have l2 := h.l2
  have hne := h.ne
  refine ⟨(h.pr.other (by omega) _ _).other (by omega) _ _, (h.i.other h.far (by omega) _ _).other h.far (by omega) _ _, h.far, ((h.vs.set ht y).other hne _ _).congr fun i hi => ?_, ((h.ats.other (fun e => hne e.symm) _ _).set ht (m : Int)).congr fun i hi => ?_, h.ne, h.l1, h.l2, (h.below.setCell (p := ⟨lv, t, none⟩) (by show w.heap.size ≤ lv; omega) _).setCell (p := ⟨la, t, none⟩) (by show w.heap.size ≤ la; omega) _⟩
  all_goals
    by_cases e : i = t
    · subst e; rw [if_pos rfl, if_neg (Nat.lt_irrefl _), if_pos rfl]
    · rw [if_neg e, if_neg e, if_neg e]
theorem BD.next (h : BD w P z1 z2 V A N lv la t x k u) (hx : x = V t) (hk : k = A t) : BD w P z1 z2 V A N lv la (t + 1) 0 0 u := by
  refine ⟨h.pr, h.i, h.far, h.vs.congr fun i hi => ?_, h.ats.congr fun i hi => ?_, h.ne, h.l1, h.l2, h.below⟩
  all_goals
    by_cases e : i = t
    · subst e; rw [if_neg (Nat.lt_irrefl _), if_pos rfl, if_pos (Nat.lt_succ_self _)]; first | rw [hx] | rw [hk]
    · rw [if_neg e]
      by_cases e2 : i < t
      · rw [if_pos e2, if_pos (by omega)]
      · rw [if_neg e2, if_neg (by omega)]; first | exact (ite_self _).symm | simp
theorem BD.start (hp : PdB u w.heap.size P) (hi : PIn P z1 z2 u) (hf : PFar P w.heap.size) (h1 : RowF u lv N (fun _ => 0)) (h2 : RowF u la N (fun _ => 0)) (hne : ¬ lv = la) (l1 : w.heap.size < lv) (l2 : w.heap.size < la) (hb : Below w.heap.size w u) : BD w P z1 z2 V A N lv la 0 0 0 u :=
  ⟨hp, hi, hf, h1.congr fun i _ => by rw [if_neg (Nat.not_lt_zero _), ite_self], h2.congr fun i _ => by rw [if_neg (Nat.not_lt_zero _)]; simp, hne, l1, l2, hb⟩
end
/-- What stands before the lists are made. -/
structure BD0 (w : World) (P : PV) (z1 z2 : List Int) (u : World) : Prop where
  pr : PdB u w.heap.size P
  i : PIn P z1 z2 u
  below : Below w.heap.size w u
theorem BD0.call {w u v : World} {P : PV} {z1 z2 : List Int} (h : BD0 w P z1 z2 u) (hb : Below u.heap.size u v) : BD0 w P z1 z2 v := ⟨h.pr.below hb, h.i.under hb, h.below.trans (hb.mono h.below.size)⟩

/-- The bounds and the places. -/
def GivesBounds (F G : Nat → Int) (R N : Nat) (w : World) (e : Ending) (w' : World) : Prop :=
  ∃ lv la : Nat, e = .returned (.tuple #[.slice (some ⟨lv, 0, none⟩) N N, .slice (some ⟨la, 0, none⟩) N N]) ∧ Below w.heap.size w w' ∧ w.heap.size ≤ lv ∧ w.heap.size ≤ la ∧ RowF w' lv N (fun t => mostTo F G t R) ∧ RowF w' la N (fun t => ((firstTo F G t R : Nat) : Int))

set_option maxRecDepth 100000 in
set_option maxHeartbeats 6400000 in
theorem bounds_any (P : PV) (z1 z2 : List Int) (hP : PIs P z1 z2) (Ni : Int) (N : Nat) (hNi : Ni = N) (hN : N ≤ 520) (w : World) (h : PIn P z1 z2 w) :
    Calls Tryz.prog 82 #[dpV P, .int .i64 Ni] w (GivesBounds (atC z1 P.p1 P.i1) (atC z2 P.p2 P.i2) P.R N w) := by
  subst hNi
  have hmk := make_rowD N (by omega)
  obtain ⟨W, hW⟩ : ∃ W, w.alloc (dpO P) = W := ⟨_, rfl⟩
  obtain ⟨hB, kp, hsz⟩ := pair_box hW
  have T0 := Lib.hid (And.intro (show BD0 w P z1 z2 W.drew from ⟨kp.below (Below.refl _ _).drew, (h.under hB).under (Below.refl _ _).drew, hB.trans ((Below.refl _ _).drew.mono hB.size)⟩) (show w.heap.size < W.drew.heap.size by show _ < W.heap.size; omega))
  have FAR := Lib.hid h.far
  have HW := Lib.hid hW
  have HP := Lib.hid hP
  have hR : P.R ≤ 519 := by rw [hP.r]; exact hP.d.reach_le
  obtain ⟨V, hV⟩ : ∃ V : Nat → Int, (fun t => mostTo (atC z1 P.p1 P.i1) (atC z2 P.p2 P.i2) t P.R) = V := ⟨_, rfl⟩
  obtain ⟨A, hA⟩ : ∃ A : Nat → Nat, (fun t => firstTo (atC z1 P.p1 P.i1) (atC z2 P.p2 P.i2) t P.R) = A := ⟨_, rfl⟩
  have HV := Lib.hid (show ∀ t, mostTo (atC z1 P.p1 P.i1) (atC z2 P.p2 P.i2) t P.R = V t from fun t => congrFun hV t)
  have HA := Lib.hid (show ∀ t, firstTo (atC z1 P.p1 P.i1) (atC z2 P.p2 P.i2) t P.R = A t from fun t => congrFun hA t)
  have HGB := Lib.hid (show ∀ t u, t < N → u < P.R → gainI (atC z1 P.p1 P.i1) (atC z2 P.p2 P.i2) t u ≤ infV from fun t u ht hu => by
    have := hP.d.gain_bd (t := t) (u := u) (by omega) (by rw [← hP.r]; exact hu)
    unfold infV at this ⊢; omega)
  clear h hB kp hsz hW hP hV hA
  go_enter Tryz.func82, Tryz.ntmps82
  go_wp2_with fail
  go_step3
  go_upto_region 1 with fail
  try rw [HW.out]
  go_cut [4, 5] (fun s4 s5 wx => ∃ lv la : Nat, s4 = .slice (some ⟨lv, 0, none⟩) N N ∧ s5 = .slice (some ⟨la, 0, none⟩) N N ∧ Hid (BD w P z1 z2 V A N lv la 0 0 0 wx))
  case first =>
    refine wp_region_keeps (fun u => Hid (BD0 w P z1 z2 u)) 5 1 (by kernel_rfl) (by kernel_rfl) (Lib.hid T0.out.1) (fun hHeld0 => ?_)
    refine wpAnyK_take (i := 0) (v := ?_) rfl (by kernel_rfl) (fun _ _ _ h => h) (Or.inl ⟨by rfl, ?_⟩) (by assumption) ?_
    rotate_left
    · (intro w hSw; (try dsimp only at hSw); go_simp; try with_reducible rfl)
    try simp only [Act.put, List.getElem_toArray, List.getElem_cons_zero, List.getElem_cons_succ, List.setIfInBounds_toArray, List.set_cons_zero, List.set_cons_succ]
    refine wpAnyK_take (i := 2) (v := ?_) rfl (by kernel_rfl) (fun _ _ _ h => h) (Or.inl ⟨by rfl, ?_⟩) (by assumption) ?_
    rotate_left
    · (intro w hSw; (try dsimp only at hSw); go_simp; try with_reducible rfl)
    try simp only [Act.put, List.getElem_toArray, List.getElem_cons_zero, List.getElem_cons_succ, List.setIfInBounds_toArray, List.set_cons_zero, List.set_cons_succ]
    refine wpAnyK_two (i := 1) (j := 3) rfl rfl (by kernel_rfl) (fun K hK => ?_) (fun K hK => ?_)
    · go_simp
      obtain ⟨x1, hvx1⟩ : ∃ W', (W.alloc (.cells (madeCells #[.int .i64 0] N) 3)).drew = W' := ⟨_, rfl⟩
      have hux1 : W.drew.alloc (.cells (madeCells #[.int .i64 0] N) 3) = x1 := hvx1
      have hbx1 : Below W.drew.heap.size W.drew x1 := by rw [← hux1]; exact (Below.refl _ _).alloc (Nat.le_refl _) _
      have Nx1 := Lib.hid (show RowF x1 W.drew.heap.size N (fun _ => 0) ∧ w.heap.size < W.drew.heap.size from ⟨by rw [← hux1]; exact RowF.made W.drew N, T0.out.2⟩)
      rw [hvx1]
      clear hux1 hvx1
      have T1 := Lib.hid (And.intro (T0.out.1.call hbx1) (show w.heap.size < x1.heap.size from Nat.lt_of_lt_of_le T0.out.2 hbx1.size))
      refine hK.out _ _ (Lib.hid T1.out.1) (fun hHeld1 => ?_)
      clear hK K hHeld0 hbx1
      try simp only [Act.put, List.getElem_toArray, List.getElem_cons_zero, List.getElem_cons_succ, List.setIfInBounds_toArray, List.set_cons_zero, List.set_cons_succ]
      refine wpAnyK_take (i := 4) (v := ?_) rfl (by kernel_rfl) (fun _ _ _ h => h) (Or.inl ⟨by rfl, ?_⟩) (by assumption) ?_
      rotate_left
      · (intro w hSw; (try dsimp only at hSw); go_simp; try with_reducible rfl)
      try simp only [Act.put, List.getElem_toArray, List.getElem_cons_zero, List.getElem_cons_succ, List.setIfInBounds_toArray, List.set_cons_zero, List.set_cons_succ]
      refine wpAnyK_step (i := 3) rfl (by kernel_rfl) (fun K hK => ?_)
      go_simp
      obtain ⟨x2, hux2⟩ : ∃ W', x1.alloc (.cells (madeCells #[.int .i64 0] N) 3) = W' := ⟨_, rfl⟩
      have hvx2 := hux2
      have hbx2 : Below x1.heap.size x1 x2 := by rw [← hux2]; exact (Below.refl _ _).alloc (Nat.le_refl _) _
      have Nx2 := Lib.hid (show RowF x2 x1.heap.size N (fun _ => 0) ∧ w.heap.size < x1.heap.size from ⟨by rw [← hux2]; exact RowF.made x1 N, T1.out.2⟩)
      rw [hvx2]
      clear hux2 hvx2
      have T2 := Lib.hid (And.intro (T1.out.1.call hbx2) (show w.heap.size < x2.heap.size from Nat.lt_of_lt_of_le T1.out.2 hbx2.size))
      have NE := Lib.hid (Nat.ne_of_lt Nx1.out.1.lt)
      have Nx1' := Lib.hid (And.intro (Nx1.out.1.under hbx2) Nx1.out.2)
      refine hK.out _ _ (Lib.hid T2.out.1) (fun hHeld2 => ?_)
      clear hK K hHeld1 hbx2
      try simp only [Act.put, List.getElem_toArray, List.getElem_cons_zero, List.getElem_cons_succ, List.setIfInBounds_toArray, List.set_cons_zero, List.set_cons_succ]
      refine wpAnyK_done (by kernel_rfl) ?_
      simp only [List.drop_succ_cons, List.drop_zero]
      clear hHeld2
      go_wp2_with fail
      go_meet
      exact ⟨W.heap.size, x1.heap.size, rfl, rfl, Lib.hid (BD.start T2.out.1.pr T2.out.1.i FAR.out Nx1'.out.1 Nx2.out.1 NE.out Nx1'.out.2 Nx2.out.2 T2.out.1.below)⟩
    · go_simp
      obtain ⟨x1, hvx1⟩ : ∃ W', (W.alloc (.cells (madeCells #[.int .i64 0] N) 3)).drew = W' := ⟨_, rfl⟩
      have hux1 : W.drew.alloc (.cells (madeCells #[.int .i64 0] N) 3) = x1 := hvx1
      have hbx1 : Below W.drew.heap.size W.drew x1 := by rw [← hux1]; exact (Below.refl _ _).alloc (Nat.le_refl _) _
      have Nx1 := Lib.hid (show RowF x1 W.drew.heap.size N (fun _ => 0) ∧ w.heap.size < W.drew.heap.size from ⟨by rw [← hux1]; exact RowF.made W.drew N, T0.out.2⟩)
      rw [hvx1]
      clear hux1 hvx1
      have T1 := Lib.hid (And.intro (T0.out.1.call hbx1) (show w.heap.size < x1.heap.size from Nat.lt_of_lt_of_le T0.out.2 hbx1.size))
      refine hK.out _ _ (Lib.hid T1.out.1) (fun hHeld1 => ?_)
      clear hK K hHeld0 hbx1
      try simp only [Act.put, List.getElem_toArray, List.getElem_cons_zero, List.getElem_cons_succ, List.setIfInBounds_toArray, List.set_cons_zero, List.set_cons_succ]
      refine wpAnyK_step (i := 1) rfl (by kernel_rfl) (fun K hK => ?_)
      go_simp
      obtain ⟨x2, hux2⟩ : ∃ W', x1.alloc (.cells (madeCells #[.int .i64 0] N) 3) = W' := ⟨_, rfl⟩
      have hvx2 := hux2
      have hbx2 : Below x1.heap.size x1 x2 := by rw [← hux2]; exact (Below.refl _ _).alloc (Nat.le_refl _) _
      have Nx2 := Lib.hid (show RowF x2 x1.heap.size N (fun _ => 0) ∧ w.heap.size < x1.heap.size from ⟨by rw [← hux2]; exact RowF.made x1 N, T1.out.2⟩)
      rw [hvx2]
      clear hux2 hvx2
      have T2 := Lib.hid (And.intro (T1.out.1.call hbx2) (show w.heap.size < x2.heap.size from Nat.lt_of_lt_of_le T1.out.2 hbx2.size))
      have NE := Lib.hid (Nat.ne_of_lt Nx1.out.1.lt)
      have Nx1' := Lib.hid (And.intro (Nx1.out.1.under hbx2) Nx1.out.2)
      refine hK.out _ _ (Lib.hid T2.out.1) (fun hHeld2 => ?_)
      clear hK K hHeld1 hbx2
      try simp only [Act.put, List.getElem_toArray, List.getElem_cons_zero, List.getElem_cons_succ, List.setIfInBounds_toArray, List.set_cons_zero, List.set_cons_succ]
      refine wpAnyK_take (i := 4) (v := ?_) rfl (by kernel_rfl) (fun _ _ _ h => h) (Or.inl ⟨by rfl, ?_⟩) (by assumption) ?_
      rotate_left
      · (intro w hSw; (try dsimp only at hSw); go_simp; try with_reducible rfl)
      try simp only [Act.put, List.getElem_toArray, List.getElem_cons_zero, List.getElem_cons_succ, List.setIfInBounds_toArray, List.set_cons_zero, List.set_cons_succ]
      refine wpAnyK_done (by kernel_rfl) ?_
      simp only [List.drop_succ_cons, List.drop_zero]
      clear hHeld2
      go_wp2_with fail
      go_meet
      exact ⟨x1.heap.size, W.heap.size, rfl, rfl, Lib.hid (BD.start T2.out.1.pr T2.out.1.i FAR.out Nx2.out.1 Nx1'.out.1 (fun e => NE.out e.symm) Nx2.out.2 Nx1'.out.2 T2.out.1.below)⟩
  case rest =>
    obtain ⟨lv, la, rfl, rfl, B0⟩ := hcut
    obtain ⟨w1, rfl⟩ : ∃ u : World, u = wc := ⟨_, rfl⟩
    clear hmk T0 FAR
    go_wp2_with fail
    go_step3
    go_wp2_with fail
    go_loopg [15] N (fun g s15 wx => ∃ t : Nat, t + g = N ∧ s15 = .int .i64 t ∧ Hid (BD w P z1 z2 V A N lv la t 0 0 wx))
    case atStart => exact ⟨0, by omega, by go_num, B0⟩
    case round =>
      obtain ⟨t, htg, rfl, BT⟩ := hrel
      obtain ⟨wt, rfl⟩ : ∃ u : World, u = wr := ⟨_, rfl⟩
      by_cases hlt : t < N
      · obtain ⟨g, rfl⟩ : ∃ g, gk = g + 1 := ⟨gk - 1, by omega⟩
        have hlti : (t : Int) < (N : Int) := by omega
        obtain ⟨⟨c0, c1, c2, f0, f1, f2⟩, c3, c4, c5, c6, c7, c8, c9, f3, f4, f5, f6, f7, f8, f9⟩ := BT.out.pr
        go_wp2_with fail
        clear c0 c1 c2 f0 f1 f2 c3 c4 c5 c6 c7 c8 c9 f3 f4 f5 f6 f7 f8 f9
        go_loopg [20] P.R (fun g2 s20 wx => ∃ u : Nat, u + g2 = P.R ∧ s20 = .int .i64 u ∧ Hid (¬ mostTo (atC z1 P.p1 P.i1) (atC z2 P.p2 P.i2) t u = infV) ∧ Hid (BD w P z1 z2 V A N lv la t (mostTo (atC z1 P.p1 P.i1) (atC z2 P.p2 P.i2) t u) (firstTo (atC z1 P.p1 P.i1) (atC z2 P.p2 P.i2) t u) wx))
        case atStart => exact ⟨0, by omega, by go_num, (by show ¬ (0 : Int) = infV; unfold infV; omega), BT⟩
        case round =>
          obtain ⟨u, hug, rfl, NI, BU⟩ := hrel
          obtain ⟨wu, rfl⟩ : ∃ u : World, u = wr := ⟨_, rfl⟩
          by_cases hlu : u < P.R
          · obtain ⟨g2, rfl⟩ : ∃ g, gk = g + 1 := ⟨gk - 1, by omega⟩
            have hlui : (u : Int) < (P.R : Int) := by omega
            obtain ⟨x, hx⟩ : ∃ x, mostTo (atC z1 P.p1 P.i1) (atC z2 P.p2 P.i2) t u = x := ⟨_, rfl⟩
            obtain ⟨y, hy⟩ : ∃ y, gainI (atC z1 P.p1 P.i1) (atC z2 P.p2 P.i2) t u = y := ⟨_, rfl⟩
            have HX := Lib.hid hx
            have HY := Lib.hid hy
            have hx' : ¬ x = 4611686018427387904 := by rw [← hx]; exact NI.out
            have hyle : y ≤ 4611686018427387904 := by rw [← hy]; exact HGB.out t u hlt hlu
            have hxle : x ≤ 4611686018427387904 := by
              have := HP.out.d.most_mid (t := t) (n := u) (by omega) (by rw [← HP.out.r]; omega)
              rw [hx] at this; unfold infV at this; omega
            rw [hx] at BU
            have hmid := at_mid2 HP.out.d.g (t := t + u) (by omega)
            have hsec := HP.out.d.second_bd (u := u) (by rw [← HP.out.r]; exact hlu)
            have HM := Lib.hid (And.intro hmid (show 0 ≤ atC z2 P.p2 P.i2 u ∧ atC z2 P.p2 P.i2 u ≤ 1125899906842624 from ⟨hsec.1, by omega⟩))
            clear hx hy hmid hsec
            have hcase : (x < y ∧ y = 4611686018427387904) ∨ (x < y ∧ ¬ y = 4611686018427387904) ∨ (¬ x < y ∧ ¬ y = 4611686018427387904) := by omega
            clear hx' hyle hxle
            rcases hcase with ⟨hl, hi⟩ | ⟨hl, hi⟩ | ⟨hl, hi⟩
            · have t1 := hl
              have t2 : decide (x < y) = true := decide_eq_true hl
              subst hi
              have HL := Lib.hid hl
              clear hl
              obtain ⟨⟨c0, c1, c2, f0, f1, f2⟩, c3, c4, c5, c6, c7, c8, c9, f3, f4, f5, f6, f7, f8, f9⟩ := BU.out.pr
              go_wp2_with fail
              with_reducible refine (gain_any P (atC z1 P.p1 P.i1) (atC z2 P.p2 P.i2) _ _ t u rfl rfl (by omega) hlu (by omega) HM.out.1 HM.out.2 _ HY.out _ BU.out.i.f BU.out.i.s).mono ?_
              rintro e w8 ⟨rfl, hb⟩
              have BU1 := Lib.hid (BU.out.call hb)
              clear hb c0 c1 c2 f0 f1 f2 c3 c4 c5 c6 c7 c8 c9 f3 f4 f5 f6 f7 f8 f9
              obtain ⟨h1, h2⟩ := BU1.out.vs.cell t hlt
              obtain ⟨h3, h4⟩ := BU1.out.ats.cell t hlt
              rw [if_neg (Nat.lt_irrefl _), if_pos rfl] at h1 h3
              have BP := Lib.hid (BU1.out.put hlt 4611686018427387904 u)
              have l12 : ¬ lv = la := BU1.out.ne
              have l21 : ¬ la = lv := fun e => l12 e.symm
              have BN := Lib.hid (BP.out.next (by
                  rw [← HV.out t, show P.R = u + 1 + (P.R - (u + 1)) by omega]
                  have h5 := most_yes (show mostTo (atC z1 P.p1 P.i1) (atC z2 P.p2 P.i2) t u < gainI (atC z1 P.p1 P.i1) (atC z2 P.p2 P.i2) t u by rw [HX.out, HY.out]; exact HL.out)
                  exact ((most_stop (h5.1.trans HY.out) _ fun u' hu' => HGB.out t u' hlt (by omega)).1).symm) (by
                  rw [← HA.out t, show P.R = u + 1 + (P.R - (u + 1)) by omega]
                  have h5 := most_yes (show mostTo (atC z1 P.p1 P.i1) (atC z2 P.p2 P.i2) t u < gainI (atC z1 P.p1 P.i1) (atC z2 P.p2 P.i2) t u by rw [HX.out, HY.out]; exact HL.out)
                  rw [(most_stop (h5.1.trans HY.out) _ fun u' hu' => HGB.out t u' hlt (by omega)).2]
                  exact h5.2.symm))
              go_wp2_with fail
              go_roundg g
              case measure => omega
              case rel => exact ⟨t + 1, by omega, by go_num, BN⟩
            · have t1 := hl
              have t2 : decide (x < y) = true := decide_eq_true hl
              have t3 : (y == 4611686018427387904) = false := by simpa using hi
              have HL := Lib.hid (And.intro hl hi)
              clear hl hi
              obtain ⟨⟨c0, c1, c2, f0, f1, f2⟩, c3, c4, c5, c6, c7, c8, c9, f3, f4, f5, f6, f7, f8, f9⟩ := BU.out.pr
              go_wp2_with fail
              with_reducible refine (gain_any P (atC z1 P.p1 P.i1) (atC z2 P.p2 P.i2) _ _ t u rfl rfl (by omega) hlu (by omega) HM.out.1 HM.out.2 _ HY.out _ BU.out.i.f BU.out.i.s).mono ?_
              rintro e w8 ⟨rfl, hb⟩
              have BU1 := Lib.hid (BU.out.call hb)
              clear hb c0 c1 c2 f0 f1 f2 c3 c4 c5 c6 c7 c8 c9 f3 f4 f5 f6 f7 f8 f9
              obtain ⟨h1, h2⟩ := BU1.out.vs.cell t hlt
              obtain ⟨h3, h4⟩ := BU1.out.ats.cell t hlt
              rw [if_neg (Nat.lt_irrefl _), if_pos rfl] at h1 h3
              have BP := Lib.hid (BU1.out.put hlt y u)
              have l12 : ¬ lv = la := BU1.out.ne
              have l21 : ¬ la = lv := fun e => l12 e.symm
              have h5 := Lib.hid (most_yes (show mostTo (atC z1 P.p1 P.i1) (atC z2 P.p2 P.i2) t u < gainI (atC z1 P.p1 P.i1) (atC z2 P.p2 P.i2) t u by rw [HX.out, HY.out]; have := HL.out.1; omega))
              have BQ := Lib.hid (show BD w P z1 z2 V A N lv la t (mostTo (atC z1 P.p1 P.i1) (atC z2 P.p2 P.i2) t (u + 1)) (firstTo (atC z1 P.p1 P.i1) (atC z2 P.p2 P.i2) t (u + 1)) _ by rw [h5.out.1, h5.out.2, HY.out]; exact BP.out)
              have NJ := Lib.hid (show ¬ mostTo (atC z1 P.p1 P.i1) (atC z2 P.p2 P.i2) t (u + 1) = infV by rw [h5.out.1, HY.out]; exact HL.out.2)
              go_wp2_with fail
              go_roundg g2
              case measure => omega
              case rel => exact ⟨u + 1, by omega, by go_num, NJ, BQ⟩
            · have t1 := hl
              have t2 : decide (x < y) = false := decide_eq_false hl
              have t3 : (y == 4611686018427387904) = false := by simpa using hi
              have HL := Lib.hid (And.intro hl hi)
              clear hl hi
              obtain ⟨⟨c0, c1, c2, f0, f1, f2⟩, c3, c4, c5, c6, c7, c8, c9, f3, f4, f5, f6, f7, f8, f9⟩ := BU.out.pr
              go_wp2_with fail
              with_reducible refine (gain_any P (atC z1 P.p1 P.i1) (atC z2 P.p2 P.i2) _ _ t u rfl rfl (by omega) hlu (by omega) HM.out.1 HM.out.2 _ HY.out _ BU.out.i.f BU.out.i.s).mono ?_
              rintro e w8 ⟨rfl, hb⟩
              have BU1 := Lib.hid (BU.out.call hb)
              clear hb c0 c1 c2 f0 f1 f2 c3 c4 c5 c6 c7 c8 c9 f3 f4 f5 f6 f7 f8 f9
              obtain ⟨h1, h2⟩ := BU1.out.vs.cell t hlt
              obtain ⟨h3, h4⟩ := BU1.out.ats.cell t hlt
              rw [if_neg (Nat.lt_irrefl _), if_pos rfl] at h1 h3
              have BP := BU1
              have h5 := Lib.hid (most_no (show ¬ mostTo (atC z1 P.p1 P.i1) (atC z2 P.p2 P.i2) t u < gainI (atC z1 P.p1 P.i1) (atC z2 P.p2 P.i2) t u by rw [HX.out, HY.out]; have := HL.out.1; omega))
              have BQ := Lib.hid (show BD w P z1 z2 V A N lv la t (mostTo (atC z1 P.p1 P.i1) (atC z2 P.p2 P.i2) t (u + 1)) (firstTo (atC z1 P.p1 P.i1) (atC z2 P.p2 P.i2) t (u + 1)) _ by rw [h5.out.1, h5.out.2, HX.out]; exact BP.out)
              have NJ := Lib.hid (show ¬ mostTo (atC z1 P.p1 P.i1) (atC z2 P.p2 P.i2) t (u + 1) = infV by rw [h5.out.1, HX.out]; rw [← HX.out]; exact NI.out)
              go_wp2_with fail
              go_roundg g2
              case measure => omega
              case rel => exact ⟨u + 1, by omega, by go_num, NJ, BQ⟩
          · obtain rfl : u = P.R := by omega
            have hlui : ¬ (P.R : Int) < (P.R : Int) := by omega
            have BN := Lib.hid (BU.out.next (HV.out t) (HA.out t))
            clear NI BU
            go_wp2_with fail
            go_roundg g
            case measure => omega
            case rel => exact ⟨t + 1, by omega, by go_num, BN⟩
      · obtain rfl : t = N := by omega
        have hlti : ¬ (t : Int) < (t : Int) := by omega
        go_wp2_with fail
        try rw [Exit.noGoto_ret]
        go_ret2
        exact ⟨lv, la, rfl, BT.out.below, Nat.le_of_lt BT.out.l1, Nat.le_of_lt BT.out.l2, BT.out.vs.congr fun i hi => by rw [if_pos hi]; exact (HV.out i).symm, BT.out.ats.congr fun i hi => by rw [if_pos hi, HA.out i]⟩

end Go.Proofs.YtkienpbmoilheaaGreat

namespace Go.Proofs.YtkienpbmoilheaaGreat
open Go.RowKit
set_option linter.unusedSimpArgs false
set_option linter.unusedVariables false

section
variable {w w' : World} {b : Nat} {x0 x1 x2 y0 y1 y2 l0 l1 n0 n1 : Value}
theorem Pd.set012 (h : Pd w b x0 x1 x2 y0 y1 y2 l0 l1 n0 n1) (z0 z1 z2 : Value) : Pd (((w.setCell ⟨b, 0, none⟩ z0).setCell ⟨b, 1, none⟩ z1).setCell ⟨b, 2, none⟩ z2) b z0 z1 z2 y0 y1 y2 l0 l1 n0 n1 := by
  obtain ⟨⟨c0, c1, c2, f0, f1, f2⟩, c3, c4, c5, c6, c7, c8, c9, f3, f4, f5, f6, f7, f8, f9⟩ := h
  exact ⟨⟨by go_simp, by go_simp, by go_simp, by go_simp, by go_simp, by go_simp⟩, by go_simp, by go_simp, by go_simp, by go_simp, by go_simp, by go_simp, by go_simp, by go_simp, by go_simp, by go_simp, by go_simp, by go_simp, by go_simp, by go_simp⟩
theorem Pd.set345 (h : Pd w b x0 x1 x2 y0 y1 y2 l0 l1 n0 n1) (z0 z1 z2 : Value) : Pd (((w.setCell ⟨b, 3, none⟩ z0).setCell ⟨b, 4, none⟩ z1).setCell ⟨b, 5, none⟩ z2) b x0 x1 x2 z0 z1 z2 l0 l1 n0 n1 := by
  obtain ⟨⟨c0, c1, c2, f0, f1, f2⟩, c3, c4, c5, c6, c7, c8, c9, f3, f4, f5, f6, f7, f8, f9⟩ := h
  exact ⟨⟨by go_simp, by go_simp, by go_simp, by go_simp, by go_simp, by go_simp⟩, by go_simp, by go_simp, by go_simp, by go_simp, by go_simp, by go_simp, by go_simp, by go_simp, by go_simp, by go_simp, by go_simp, by go_simp, by go_simp, by go_simp⟩
theorem Pd.set67 (h : Pd w b x0 x1 x2 y0 y1 y2 l0 l1 n0 n1) (z0 z1 : Value) : Pd ((w.setCell ⟨b, 6, none⟩ z0).setCell ⟨b, 7, none⟩ z1) b x0 x1 x2 y0 y1 y2 z0 z1 n0 n1 := by
  obtain ⟨⟨c0, c1, c2, f0, f1, f2⟩, c3, c4, c5, c6, c7, c8, c9, f3, f4, f5, f6, f7, f8, f9⟩ := h
  exact ⟨⟨by go_simp, by go_simp, by go_simp, by go_simp, by go_simp, by go_simp⟩, by go_simp, by go_simp, by go_simp, by go_simp, by go_simp, by go_simp, by go_simp, by go_simp, by go_simp, by go_simp, by go_simp, by go_simp, by go_simp, by go_simp⟩
theorem Pd.set8 (h : Pd w b x0 x1 x2 y0 y1 y2 l0 l1 n0 n1) (z0 : Value) : Pd (w.setCell ⟨b, 8, none⟩ z0) b x0 x1 x2 y0 y1 y2 l0 l1 z0 n1 := by
  obtain ⟨⟨c0, c1, c2, f0, f1, f2⟩, c3, c4, c5, c6, c7, c8, c9, f3, f4, f5, f6, f7, f8, f9⟩ := h
  exact ⟨⟨by go_simp, by go_simp, by go_simp, by go_simp, by go_simp, by go_simp⟩, by go_simp, by go_simp, by go_simp, by go_simp, by go_simp, by go_simp, by go_simp, by go_simp, by go_simp, by go_simp, by go_simp, by go_simp, by go_simp, by go_simp⟩
theorem Pd.set9 (h : Pd w b x0 x1 x2 y0 y1 y2 l0 l1 n0 n1) (z0 : Value) : Pd (w.setCell ⟨b, 9, none⟩ z0) b x0 x1 x2 y0 y1 y2 l0 l1 n0 z0 := by
  obtain ⟨⟨c0, c1, c2, f0, f1, f2⟩, c3, c4, c5, c6, c7, c8, c9, f3, f4, f5, f6, f7, f8, f9⟩ := h
  exact ⟨⟨by go_simp, by go_simp, by go_simp, by go_simp, by go_simp, by go_simp⟩, by go_simp, by go_simp, by go_simp, by go_simp, by go_simp, by go_simp, by go_simp, by go_simp, by go_simp, by go_simp, by go_simp, by go_simp, by go_simp, by go_simp⟩
theorem below_b3 {B : Nat} {u w : World} {b i j k : Nat} (h : Below B u w) (hb : B ≤ b) (y0 y1 y2 : Value) : Below B u (((w.setCell ⟨b, i, none⟩ y0).setCell ⟨b, j, none⟩ y1).setCell ⟨b, k, none⟩ y2) :=
  ((h.setCell (p := ⟨b, i, none⟩) hb _).setCell (p := ⟨b, j, none⟩) hb _).setCell (p := ⟨b, k, none⟩) hb _
end

/-- While the pair is made: the boxes of both curves, of the result, and (in the block pb) of the pair; the pair's curves lie behind it. -/
structure SF (w : World) (a1 : Option Addr) (n1 cap1 p1 : Nat) (i1 : Int) (z1 : List Int) (a2 : Option Addr) (n2 cap2 p2 : Nat) (i2 : Int) (z2 : List Int) (u : World) : Prop where
  c1 : Cur3 u w.heap.size (.slice a1 n1 cap1) (.int .i64 p1) (.int .i64 i1)
  c2 : Cur3 u (w.heap.size + 1) (.slice a2 n2 cap2) (.int .i64 p2) (.int .i64 i2)
  res : Pd u (w.heap.size + 2) (.slice none 0 0) (.int .i64 0) (.int .i64 0) (.slice none 0 0) (.int .i64 0) (.int .i64 0) (.slice none 0 0) (.slice none 0 0) (.int .i64 0) (.int .i64 0)
  r1 : RowZ u a1 n1 cap1 z1
  r2 : RowZ u a2 n2 cap2 z2
  f1 : ∀ x, a1 = some x → 1 ≤ n1 → x.block < w.heap.size
  f2 : ∀ x, a2 = some x → 1 ≤ n2 → x.block < w.heap.size
  below : Below w.heap.size w u
section
variable {w u v : World} {a1 : Option Addr} {n1 cap1 p1 : Nat} {i1 : Int} {z1 : List Int} {a2 : Option Addr} {n2 cap2 p2 : Nat} {i2 : Int} {z2 : List Int}
theorem SF.call (h : SF w a1 n1 cap1 p1 i1 z1 a2 n2 cap2 p2 i2 z2 u) (hb : Below u.heap.size u v) : SF w a1 n1 cap1 p1 i1 z1 a2 n2 cap2 p2 i2 z2 v :=
  ⟨h.c1.below hb, h.c2.below hb, h.res.below hb, h.r1.under hb, h.r2.under hb, h.f1, h.f2, h.below.trans (hb.mono h.below.size)⟩
theorem SF.other (h : SF w a1 n1 cap1 p1 i1 z1 a2 n2 cap2 p2 i2 z2 u) {b : Nat} (hb : w.heap.size + 2 < b) (i : Nat) (v : Value) : SF w a1 n1 cap1 p1 i1 z1 a2 n2 cap2 p2 i2 z2 (u.setCell ⟨b, i, none⟩ v) :=
  ⟨h.c1.other (by omega) _ _, h.c2.other (by omega) _ _, h.res.other (by omega) _ _, h.r1.store (fun x h1 h2 => by have := h.f1 x h1 h2; omega) _ _, h.r2.store (fun x h1 h2 => by have := h.f2 x h1 h2; omega) _ _, h.f1, h.f2, h.below.setCell (p := ⟨b, i, none⟩) (by show w.heap.size ≤ b; omega) v⟩
theorem sf_start (h1 : RowZ w a1 n1 cap1 z1) (h2 : RowZ w a2 n2 cap2 z2) {W : World} (hW : ((w.alloc (.cells #[.slice a1 n1 cap1, .int .i64 p1, .int .i64 i1] 24)).alloc (.cells #[.slice a2 n2 cap2, .int .i64 p2, .int .i64 i2] 24)).alloc (.cells #[.slice none 0 0, .int .i64 0, .int .i64 0, .slice none 0 0, .int .i64 0, .int .i64 0, .slice none 0 0, .slice none 0 0, .int .i64 0, .int .i64 0] 99) = W) : SF w a1 n1 cap1 p1 i1 z1 a2 n2 cap2 p2 i2 z2 W ∧ W.heap.size = w.heap.size + 3 := by
  subst hW
  have hB : Below w.heap.size w (((w.alloc (.cells #[.slice a1 n1 cap1, .int .i64 p1, .int .i64 i1] 24)).alloc (.cells #[.slice a2 n2 cap2, .int .i64 p2, .int .i64 i2] 24)).alloc (.cells #[.slice none 0 0, .int .i64 0, .int .i64 0, .slice none 0 0, .int .i64 0, .int .i64 0, .slice none 0 0, .slice none 0 0, .int .i64 0, .int .i64 0] 99)) := (((Below.refl _ _).alloc (Nat.le_refl _) _).alloc (by simp) _).alloc (by simp; omega) _
  refine ⟨⟨((Cur3.new w _ _ _ _).alloc _).alloc _, (Cur3.new2 w _ _ _ _ _).alloc _, ?_, h1.under hB, h2.under hB, fun x k1 k2 => h1.far x k1 k2, fun x k1 k2 => h2.far x k1 k2, hB⟩, by simp⟩
  have := pd_new ((w.alloc (.cells #[.slice a1 n1 cap1, .int .i64 p1, .int .i64 i1] 24)).alloc (.cells #[.slice a2 n2 cap2, .int .i64 p2, .int .i64 i2] 24)) (.slice none 0 0) (.int .i64 0) (.int .i64 0) (.slice none 0 0) (.int .i64 0) (.int .i64 0) (.slice none 0 0) (.slice none 0 0) (.int .i64 0) (.int .i64 0) 99
  simpa using this
end

/-- While the pair in the block pb is filled: what it holds, and the rows of its curves, which lie behind it. -/
structure SN (w : World) (pb : Nat) (P : PV) (z1 z2 : List Int) (l0 l1 n0 n1 : Value) (u : World) : Prop where
  res : Pd u (w.heap.size + 2) (.slice none 0 0) (.int .i64 0) (.int .i64 0) (.slice none 0 0) (.int .i64 0) (.int .i64 0) (.slice none 0 0) (.slice none 0 0) (.int .i64 0) (.int .i64 0)
  pr : Pd u pb (.slice P.a1 P.n1 P.cap1) (.int .i64 P.p1) (.int .i64 P.i1) (.slice P.a2 P.n2 P.cap2) (.int .i64 P.p2) (.int .i64 P.i2) l0 l1 n0 n1
  r1 : RowZ u P.a1 P.n1 P.cap1 z1
  r2 : RowZ u P.a2 P.n2 P.cap2 z2
  f1 : ∀ x, P.a1 = some x → pb < x.block
  f2 : ∀ x, P.a2 = some x → pb < x.block
  hp : w.heap.size + 2 < pb
  below : Below w.heap.size w u
section
variable {w u v : World} {pb : Nat} {P : PV} {z1 z2 : List Int} {l0 l1 n0 n1 : Value}
theorem SN.call (h : SN w pb P z1 z2 l0 l1 n0 n1 u) (hb : Below u.heap.size u v) : SN w pb P z1 z2 l0 l1 n0 n1 v :=
  ⟨h.res.below hb, h.pr.below hb, h.r1.under hb, h.r2.under hb, h.f1, h.f2, h.hp, h.below.trans (hb.mono h.below.size)⟩
theorem SN.put8 (h : SN w pb P z1 z2 l0 l1 n0 n1 u) (x : Value) : SN w pb P z1 z2 l0 l1 x n1 (u.setCell ⟨pb, 8, none⟩ x) := by
  have hp := h.hp
  exact ⟨h.res.other (by omega) _ _, h.pr.set8 x, h.r1.store (fun y hy _ => by have := h.f1 y hy; omega) _ _, h.r2.store (fun y hy _ => by have := h.f2 y hy; omega) _ _, h.f1, h.f2, hp, h.below.setCell (p := ⟨pb, 8, none⟩) (by show w.heap.size ≤ pb; omega) x⟩
theorem SN.put9 (h : SN w pb P z1 z2 l0 l1 n0 n1 u) (x : Value) : SN w pb P z1 z2 l0 l1 n0 x (u.setCell ⟨pb, 9, none⟩ x) := by
  have hp := h.hp
  exact ⟨h.res.other (by omega) _ _, h.pr.set9 x, h.r1.store (fun y hy _ => by have := h.f1 y hy; omega) _ _, h.r2.store (fun y hy _ => by have := h.f2 y hy; omega) _ _, h.f1, h.f2, hp, h.below.setCell (p := ⟨pb, 9, none⟩) (by show w.heap.size ≤ pb; omega) x⟩
abbrev SNS (w : World) (pb : Nat) (P : PV) (z1 z2 : List Int) (l0 l1 n0 n1 : Value) (u : World) : Prop :=
  u.cell? ⟨pb, 0, none⟩ = some (.slice P.a1 P.n1 P.cap1) ∧ u.cell? ⟨pb, 1, none⟩ = some (.int .i64 P.p1) ∧ u.cell? ⟨pb, 2, none⟩ = some (.int .i64 P.i1) ∧ u.cell? ⟨pb, 3, none⟩ = some (.slice P.a2 P.n2 P.cap2) ∧ u.cell? ⟨pb, 4, none⟩ = some (.int .i64 P.p2) ∧ u.cell? ⟨pb, 5, none⟩ = some (.int .i64 P.i2) ∧ u.cell? ⟨pb, 8, none⟩ = some n0 ∧ u.cell? ⟨pb, 9, none⟩ = some n1 ∧ Hid (SN w pb P z1 z2 l0 l1 n0 n1 u)
theorem sns_of (h : SN w pb P z1 z2 l0 l1 n0 n1 u) : SNS w pb P z1 z2 l0 l1 n0 n1 u := ⟨h.pr.lo.c0, h.pr.lo.c1, h.pr.lo.c2, h.pr.c3, h.pr.c4, h.pr.c5, h.pr.c8, h.pr.c9, h⟩
end

/-- The pair of two curves. -/
def GivesPair8 (y1 : List Int) (q1 : Nat) (j1 : Int) (y2 : List Int) (q2 : Nat) (j2 : Int) (L : Nat) (w : World) (e : Ending) (w' : World) : Prop :=
  ∃ P : PV, e = .returned (.tuple #[dpV P, .int .i64 0]) ∧ Below w.heap.size w w' ∧ PIs P y1 y2 ∧ PIn P y1 y2 w' ∧ P.p1 = q1 ∧ P.i1 = j1 ∧ P.p2 = q2 ∧ P.i2 = j2 ∧ P.L = L

theorem norm_again {zs zs' : List Int} {p p' : Nat} {inc inc' : Int} (h : NormC zs p inc zs' p' inc') (g : Good zs p inc) : NormC zs' p' inc' zs' p' inc' := by
  obtain ⟨s, _, hn⟩ := norm_self (h.eform g)
  exact hn
theorem below_set10 {B : Nat} {u w : World} {b : Nat} (h : Below B u w) (hb : B ≤ b) (y0 y1 y2 y3 y4 y5 y6 y7 y8 y9 : Value) : Below B u ((((((((((w.setCell ⟨b, 0, none⟩ y0).setCell ⟨b, 1, none⟩ y1).setCell ⟨b, 2, none⟩ y2).setCell ⟨b, 3, none⟩ y3).setCell ⟨b, 4, none⟩ y4).setCell ⟨b, 5, none⟩ y5).setCell ⟨b, 6, none⟩ y6).setCell ⟨b, 7, none⟩ y7).setCell ⟨b, 8, none⟩ y8).setCell ⟨b, 9, none⟩ y9) :=
  ((((((below_b3 h hb y0 y1 y2).setCell (p := ⟨b, 3, none⟩) hb _).setCell (p := ⟨b, 4, none⟩) hb _).setCell (p := ⟨b, 5, none⟩) hb _).setCell (p := ⟨b, 6, none⟩) hb _).setCell (p := ⟨b, 7, none⟩) hb _ |>.setCell (p := ⟨b, 8, none⟩) hb _).setCell (p := ⟨b, 9, none⟩) hb _
theorem PIn.other10 {P : PV} {z1 z2 : List Int} {w : World} (h : PIn P z1 z2 w) {b : Nat} (h1 : ∀ x, P.a1 = some x → 1 ≤ P.n1 → x.block ≠ b) (h2 : ∀ x, P.a2 = some x → 1 ≤ P.n2 → x.block ≠ b) (h3 : P.la ≠ b) (h4 : P.lb ≠ b) (i : Nat) (v : Value) : PIn P z1 z2 (w.setCell ⟨b, i, none⟩ v) :=
  ⟨h.r1.store h1 _ _, h.r2.store h2 _ _, h.f.other h3 _ _, h.s.other h4 _ _⟩

set_option maxRecDepth 100000 in
set_option maxHeartbeats 6400000 in
theorem dpaired_ok (a1 : Option Addr) (n1 cap1 : Nat) (z1 : List Int) (p1 : Nat) (i1 : Int) (g1 : Good z1 p1 i1) (a2 : Option Addr) (n2 cap2 : Nat) (z2 : List Int) (p2 : Nat) (i2 : Int) (g2 : Good z2 p2 i2)
    {y1 y2 : List Int} {q1 q2 : Nat} {j1 j2 : Int} (hn1 : NormC z1 p1 i1 y1 q1 j1) (hn2 : NormC z2 p2 i2 y2 q2 j2) (L : Nat) (hL : q1 / Nat.gcd q1 q2 * q2 = L) (hd : Dec y1 q1 j1 y2 q2 j2 L) (w : World) (h1 : RowZ w a1 n1 cap1 z1) (h2 : RowZ w a2 n2 cap2 z2) :
    Calls Tryz.prog 80 #[curV a1 n1 cap1 p1 i1, curV a2 n2 cap2 p2 i2] w (GivesPair8 y1 q1 j1 y2 q2 j2 L w) := by
  obtain ⟨W, hW⟩ : ∃ W, ((w.alloc (.cells #[.slice a1 n1 cap1, .int .i64 p1, .int .i64 i1] 24)).alloc (.cells #[.slice a2 n2 cap2, .int .i64 p2, .int .i64 i2] 24)).alloc (.cells #[.slice none 0 0, .int .i64 0, .int .i64 0, .slice none 0 0, .int .i64 0, .int .i64 0, .slice none 0 0, .slice none 0 0, .int .i64 0, .int .i64 0] 99) = W := ⟨_, rfl⟩
  obtain ⟨t0, hsz⟩ := sf_start (p1 := p1) (i1 := i1) (p2 := p2) (i2 := i2) h1 h2 hW
  have T0 := Lib.hid t0
  have HSZ := Lib.hid hsz
  have HW := Lib.hid hW
  have V1 := Lib.hid ((okC_iff z1 p1 i1).2 g1)
  have V2 := Lib.hid ((okC_iff z2 p2 i2).2 g2)
  have G1 := Lib.hid g1
  have G2 := Lib.hid g2
  have HN := Lib.hid (And.intro hn1 hn2)
  have HL := Lib.hid hL
  have HD := Lib.hid hd
  have e1 : In64 (p1 : Int) := ⟨by omega, by have := g1.p2; omega⟩
  have e2 : In64 (p2 : Int) := ⟨by omega, by have := g2.p2; omega⟩
  have e3 : In64 i1 := ⟨by have := g1.i0; omega, by have := g1.i1; omega⟩
  have e4 : In64 i2 := ⟨by have := g2.i0; omega, by have := g2.i1; omega⟩
  have HI := Lib.hid (And.intro (And.intro e1 e3) (And.intro e2 e4))
  have z20 : z2.getD 0 0 = 0 := by
    have h := (hn2.values g2 0).symm.trans hd.h0
    have := g2.p1; have := g2.p3
    rwa [atC_lt (by omega)] at h
  have hn21 : 1 ≤ n2 := by have := g2.p1; have := g2.p3; have := h2.len; omega
  have hn2i : (0 : Int) < (n2 : Int) := by omega
  clear t0 hsz hW g1 g2 hn1 hn2 hL hd h1 h2 e1 e2 e3 e4
  go_enter Tryz.func80, Tryz.ntmps80
  go_wp2_with fail
  try rw [HW.out]
  refine (valid_any a1 n1 cap1 z1 p1 i1 HI.out.1.1 HI.out.1.2 true V1.out _ T0.out.r1).mono ?_
  rintro e w1 ⟨rfl, hb⟩
  have T1 := Lib.hid (T0.out.call hb)
  have HS1 := Lib.hid (Nat.le_trans (Nat.le_of_eq HSZ.out.symm) hb.size)
  clear hb
  obtain ⟨c0, c1, c2, f0, f1, f2⟩ := T1.out.c2
  go_wp2_with fail
  refine (valid_any a2 n2 cap2 z2 p2 i2 HI.out.2.1 HI.out.2.2 true V2.out _ T1.out.r2).mono ?_
  rintro e w2 ⟨rfl, hb⟩
  have T2 := Lib.hid (T1.out.call hb)
  have HS2 := Lib.hid (Nat.le_trans HS1.out hb.size)
  clear hb c0 c1 c2 f0 f1 f2
  obtain ⟨c0, c1, c2, f0, f1, f2⟩ := T2.out.c2
  obtain ⟨x, hax, hcx⟩ := T2.out.r2.cell 0 hn21
  rw [z20] at hcx
  have hcy := hcx
  rw [show x.add 0 = x by cases x; rfl] at hcy
  obtain ⟨W5, hW5⟩ : ∃ W', w2.alloc (.cells #[.slice none 0 0, .int .i64 0, .int .i64 0, .slice none 0 0, .int .i64 0, .int .i64 0, .slice none 0 0, .slice none 0 0, .int .i64 0, .int .i64 0] 99) = W' := ⟨_, rfl⟩
  have hb5 : Below w2.heap.size w2 W5 := by rw [← hW5]; exact (Below.refl _ _).alloc (Nat.le_refl _) _
  have T5 := Lib.hid (T2.out.call hb5)
  have PB := Lib.hid (show Pd W5 w2.heap.size (.slice none 0 0) (.int .i64 0) (.int .i64 0) (.slice none 0 0) (.int .i64 0) (.int .i64 0) (.slice none 0 0) (.slice none 0 0) (.int .i64 0) (.int .i64 0) by rw [← hW5]; exact pd_new w2 (.slice none 0 0) (.int .i64 0) (.int .i64 0) (.slice none 0 0) (.int .i64 0) (.int .i64 0) (.slice none 0 0) (.slice none 0 0) (.int .i64 0) (.int .i64 0) _)
  have HW5 := Lib.hid hW5
  have HS5 := Lib.hid (show w.heap.size + 2 < w2.heap.size by have := HS2.out; omega)
  clear hb5 hW5
  subst hax
  go_upto_region 6 with fail
  try rw [HW5.out]
  clear c0 c1 c2 f0 f1 f2 hcx hcy
  obtain ⟨c0, c1, c2, f0, f1, f2⟩ := T5.out.c1
  go_wp2_with fail
  refine (normal_ok a1 n1 cap1 z1 p1 i1 G1.out _ T5.out.r1).mono ?_
  rintro e w3 ⟨a3, n3, cap3, x1, r1, k1, rfl, hb, hr, hn, hx⟩
  obtain ⟨rfl, rfl, rfl⟩ := hn.canon G1.out G1.out HN.out.1 (fun _ => rfl)
  obtain ⟨W6, hW6⟩ : ∃ W', (((w3.setCell ⟨w2.heap.size, 0, none⟩ (.slice a3 n3 cap3)).setCell ⟨w2.heap.size, 1, none⟩ (.int .i64 r1)).setCell ⟨w2.heap.size, 2, none⟩ (.int .i64 k1)) = W' := ⟨_, rfl⟩
  have T6 := Lib.hid (show SF w a1 n1 cap1 p1 i1 z1 (some x) n2 cap2 p2 i2 z2 W6 by rw [← hW6]; have h9 := HS5.out; exact (((T5.out.call hb).other h9 _ _).other h9 _ _).other h9 _ _)
  have PB6 := Lib.hid (show Pd W6 w2.heap.size (.slice a3 n3 cap3) (.int .i64 r1) (.int .i64 k1) (.slice none 0 0) (.int .i64 0) (.int .i64 0) (.slice none 0 0) (.slice none 0 0) (.int .i64 0) (.int .i64 0) by rw [← hW6]; exact (PB.out.below hb).set012 _ _ _)
  have hlt3 : w2.heap.size < w3.heap.size := Nat.lt_of_lt_of_le PB.out.lt hb.size
  have X3 := Lib.hid (show ∀ x, a3 = some x → w2.heap.size < x.block from fun x h => by have := hx x h; have := PB.out.lt; omega)
  have RX3 := Lib.hid (show RowZ W6 a3 n3 cap3 x1 by
    rw [← hW6]
    have q : ∀ x, a3 = some x → 1 ≤ n3 → x.block ≠ w2.heap.size := fun x h _ => by have := X3.out x h; omega
    exact ((hr.store q _ _).store q _ _).store q _ _)
  have HW6 := Lib.hid hW6
  obtain ⟨⟨c0, c1, c2, f0, f1, f2⟩, c3, c4, c5, c6, c7, c8, c9, f3, f4, f5, f6, f7, f8, f9⟩ := PB.out.below hb
  clear hb hr hn hx hW6 hlt3
  go_upto_region 7 with fail
  try rw [HW6.out]
  clear c0 c1 c2 f0 f1 f2 c3 c4 c5 c6 c7 c8 c9 f3 f4 f5 f6 f7 f8 f9
  obtain ⟨c0, c1, c2, f0, f1, f2⟩ := T6.out.c2
  go_wp2_with fail
  refine (normal_ok (some x) n2 cap2 z2 p2 i2 G2.out _ T6.out.r2).mono ?_
  rintro e w4 ⟨a4, n4, cap4, x2, r2, k2, rfl, hb, hr, hn, hx⟩
  obtain ⟨rfl, rfl, rfl⟩ := hn.canon G2.out G2.out HN.out.2 (fun _ => rfl)
  obtain ⟨W7, hW7⟩ : ∃ W', (((w4.setCell ⟨w2.heap.size, 3, none⟩ (.slice a4 n4 cap4)).setCell ⟨w2.heap.size, 4, none⟩ (.int .i64 r2)).setCell ⟨w2.heap.size, 5, none⟩ (.int .i64 k2)) = W' := ⟨_, rfl⟩
  obtain ⟨P0, hP0⟩ : ∃ P : PV, P = ⟨a3, n3, cap3, r1, k1, a4, n4, cap4, r2, k2, 0, 0, L, 0⟩ := ⟨_, rfl⟩
  have N7 := Lib.hid (show SN w w2.heap.size P0 x1 x2 (.slice none 0 0) (.slice none 0 0) (.int .i64 0) (.int .i64 0) W7 by
    have h9 := HS5.out
    have hle : w2.heap.size < W6.heap.size := PB6.out.lt
    have X4 : ∀ x, a4 = some x → w2.heap.size < x.block := fun x h => by have := hx x h; omega
    have q3 : ∀ x, a3 = some x → 1 ≤ n3 → x.block ≠ w2.heap.size := fun x h _ => by have := X3.out x h; omega
    have q4 : ∀ x, a4 = some x → 1 ≤ n4 → x.block ≠ w2.heap.size := fun x h _ => by have := X4 x h; omega
    rw [← hW7, hP0]
    exact ⟨((((T6.out.call hb).res.other (by omega) _ _).other (by omega) _ _).other (by omega) _ _), (PB6.out.below hb).set345 _ _ _, ((((RX3.out.under hb).store q3 _ _).store q3 _ _).store q3 _ _), (((hr.store q4 _ _).store q4 _ _).store q4 _ _), X3.out, X4, h9, below_b3 (T6.out.call hb).below (by omega) _ _ _⟩)
  have HW7 := Lib.hid hW7
  clear c0 c1 c2 f0 f1 f2
  obtain ⟨⟨c0, c1, c2, f0, f1, f2⟩, c3, c4, c5, c6, c7, c8, c9, f3, f4, f5, f6, f7, f8, f9⟩ := PB6.out.below hb
  clear hb hr hn hx hW7
  have GX := Lib.hid (And.intro (HN.out.1.good G1.out) (HN.out.2.good G2.out))
  have NX := Lib.hid (And.intro (norm_again HN.out.1 G1.out) (norm_again HN.out.2 G2.out))
  have bp1 := GX.out.1.p1
  have bp2 := GX.out.1.p2
  have bp3 := GX.out.2.p1
  have bp4 := GX.out.2.p2
  have bl : L ≤ 120 := HD.out.l
  have bl1 : 1 ≤ L := HD.out.m.one
  go_upto_region 8 with fail
  try rw [HW7.out]
  clear c0 c1 c2 f0 f1 f2 c3 c4 c5 c6 c7 c8 c9 f3 f4 f5 f6 f7 f8 f9
  subst hP0
  obtain ⟨⟨c0, c1, c2, f0, f1, f2⟩, c3, c4, c5, c6, c7, c8, c9, f3, f4, f5, f6, f7, f8, f9⟩ := N7.out.pr
  go_wp2_with fail
  refine (common_any r1 r2 L HL.out bp1 (by omega) bp3 (by omega) _).mono ?_
  rintro e w5 ⟨rfl, hd⟩
  have N8 := Lib.hid ((N7.out.call (below_dr (Below.refl _ _) hd)).put8 (.int .i64 L))
  clear c0 c1 c2 f0 f1 f2 c3 c4 c5 c6 c7 c8 c9 f3 f4 f5 f6 f7 f8 f9
  obtain ⟨⟨c0, c1, c2, f0, f1, f2⟩, c3, c4, c5, c6, c7, c8, c9, f3, f4, f5, f6, f7, f8, f9⟩ := N7.out.pr.below (below_dr (Below.refl _ _) hd)
  clear hd
  obtain ⟨W8, hW8⟩ : ∃ W', w5.setCell ⟨w2.heap.size, 8, none⟩ (.int .i64 L) = W' := ⟨_, rfl⟩
  rw [hW8] at N8
  have HW8 := Lib.hid hW8
  clear hW8
  have hLi : ¬ (120 : Int) < (L : Int) := by omega
  go_upto_region 9 with fail
  try rw [HW8.out]
  clear c0 c1 c2 f0 f1 f2 c3 c4 c5 c6 c7 c8 c9 f3 f4 f5 f6 f7 f8 f9
  obtain ⟨⟨c0, c1, c2, f0, f1, f2⟩, c3, c4, c5, c6, c7, c8, c9, f3, f4, f5, f6, f7, f8, f9⟩ := N8.out.pr
  obtain ⟨s1, hs1⟩ : ∃ s, x1.length - r1 = s := ⟨_, rfl⟩
  obtain ⟨s2, hs2⟩ : ∃ s, x2.length - r2 = s := ⟨_, rfl⟩
  have S1 := Lib.hid (show x1.length = s1 + r1 by have := GX.out.1.p3; omega)
  have S2 := Lib.hid (show x2.length = s2 + r2 by have := GX.out.2.p3; omega)
  have bs1 : s1 ≤ 400 := by have := GX.out.1.few; omega
  have bs2 : s2 ≤ 400 := by have := GX.out.2.few; omega
  obtain ⟨m, hm⟩ : ∃ m, max s1 s2 + L = m := ⟨_, rfl⟩
  have HM := Lib.hid (show max (x1.length - r1) (x2.length - r2) + L = m by rw [hs1, hs2]; exact hm)
  have N8d := Lib.hid (N8.out.call (Below.refl _ _).drew)
  have hcase : (s1 < s2 ∧ s2 + L = m) ∨ (¬ s1 < s2 ∧ s1 + L = m) := by omega
  clear hs1 hs2 hm
  go_upto_region 11 with fail
  clear c0 c1 c2 f0 f1 f2 c3 c4 c5 c6 c7 c8 c9 f3 f4 f5 f6 f7 f8 f9
  go_cut [] (fun wx => Hid (SN w w2.heap.size ⟨a3, n3, cap3, r1, k1, a4, n4, cap4, r2, k2, 0, 0, L, 0⟩ x1 x2 (.slice none 0 0) (.slice none 0 0) (.int .i64 L) (.int .i64 m) wx))
  case first =>
    rcases hcase with ⟨hl, hm⟩ | ⟨hl, hm⟩
    · have t1i : (s1 : Int) < (s2 : Int) := by omega
      have t3 : decide ((s1 : Int) < (s2 : Int)) = true := decide_eq_true t1i
      have t2 : ¬ (s2 : Int) < (s1 : Int) := by omega
      have hmi : (s2 : Int) + (L : Int) = (m : Int) := by omega
      have hmw : IntKind.i64.wrap (m : Int) = (m : Int) := IntWalk.i64_in _ ⟨by omega, by omega⟩
      clear hl hm
      refine wp_region_keeps (fun u => SNS w w2.heap.size ⟨a3, n3, cap3, r1, k1, a4, n4, cap4, r2, k2, 0, 0, L, 0⟩ x1 x2 (.slice none 0 0) (.slice none 0 0) (.int .i64 L) (.int .i64 0) u) 10 2 (by kernel_rfl) (by kernel_rfl) (sns_of N8d.out) (fun hHeld0 => ?_)
      refine wpAnyK_take (i := 0) (v := ?_) rfl (by kernel_rfl) (fun _ _ _ h => h) (Or.inl ⟨by rfl, ?_⟩) (by assumption) ?_
      rotate_left
      · (intro w hSw; (try dsimp only at hSw); go_simp; try with_reducible rfl)
      try simp only [Act.put, List.getElem_toArray, List.getElem_cons_zero, List.getElem_cons_succ, List.setIfInBounds_toArray, List.set_cons_zero, List.set_cons_succ]
      refine wpAnyK_take (i := 1) (v := ?_) rfl (by kernel_rfl) (fun _ _ _ h => h) (Or.inl ⟨by rfl, ?_⟩) (by assumption) ?_
      rotate_left
      · (intro w hSw; (try dsimp only at hSw); go_simp; try with_reducible rfl)
      try simp only [Act.put, List.getElem_toArray, List.getElem_cons_zero, List.getElem_cons_succ, List.setIfInBounds_toArray, List.set_cons_zero, List.set_cons_succ]
      refine wpAnyK_take (i := 3) (v := ?_) rfl (by kernel_rfl) (fun _ _ _ h => h) (Or.inl ⟨by rfl, ?_⟩) (by assumption) ?_
      rotate_left
      · (intro w hSw; (try dsimp only at hSw); go_simp; try with_reducible rfl)
      try simp only [Act.put, List.getElem_toArray, List.getElem_cons_zero, List.getElem_cons_succ, List.setIfInBounds_toArray, List.set_cons_zero, List.set_cons_succ]
      refine wpAnyK_take (i := 4) (v := ?_) rfl (by kernel_rfl) (fun _ _ _ h => h) (Or.inl ⟨by rfl, ?_⟩) (by assumption) ?_
      rotate_left
      · (intro w hSw; (try dsimp only at hSw); go_simp; try with_reducible rfl)
      try simp only [Act.put, List.getElem_toArray, List.getElem_cons_zero, List.getElem_cons_succ, List.setIfInBounds_toArray, List.set_cons_zero, List.set_cons_succ]
      refine wpAnyK_take (i := 7) (v := ?_) rfl (by kernel_rfl) (fun _ _ _ h => h) (Or.inl ⟨by rfl, ?_⟩) (by assumption) ?_
      rotate_left
      · (intro w hSw; (try dsimp only at hSw); go_simp; try with_reducible rfl)
      try simp only [Act.put, List.getElem_toArray, List.getElem_cons_zero, List.getElem_cons_succ, List.setIfInBounds_toArray, List.set_cons_zero, List.set_cons_succ]
      refine wpAnyK_take (i := 8) (v := ?_) rfl (by kernel_rfl) (fun _ _ _ h => h) (Or.inl ⟨by rfl, ?_⟩) (by assumption) ?_
      rotate_left
      · (intro w hSw; (try dsimp only at hSw); go_simp; try with_reducible rfl)
      try simp only [Act.put, List.getElem_toArray, List.getElem_cons_zero, List.getElem_cons_succ, List.setIfInBounds_toArray, List.set_cons_zero, List.set_cons_succ]
      refine wpAnyK_step (i := 2) rfl (by kernel_rfl) (fun K hK => ?_)
      go_simp
      with_reducible refine (start_i a3 n3 cap3 x1 r1 k1 GX.out.1 NX.out.1 s1 S1.out _ N8d.out.r1).mono ?_
      rintro e u3 ⟨rfl, hb⟩
      have T1 := Lib.hid (N8d.out.call hb)
      clear hb
      refine hK.out _ _ (sns_of T1.out) (fun hHeld1 => ?_)
      clear hK K hHeld0
      try simp only [Act.put, List.getElem_toArray, List.getElem_cons_zero, List.getElem_cons_succ, List.setIfInBounds_toArray, List.set_cons_zero, List.set_cons_succ]
      refine wpAnyK_step (i := 5) rfl (by kernel_rfl) (fun K hK => ?_)
      go_simp
      with_reducible refine (start_i a4 n4 cap4 x2 r2 k2 GX.out.2 NX.out.2 s2 S2.out _ T1.out.r2).mono ?_
      rintro e u4 ⟨rfl, hb⟩
      have T2 := Lib.hid (T1.out.call hb)
      clear hb
      refine hK.out _ _ (sns_of T2.out) (fun hHeld2 => ?_)
      clear hK K hHeld1
      try simp only [Act.put, List.getElem_toArray, List.getElem_cons_zero, List.getElem_cons_succ, List.setIfInBounds_toArray, List.set_cons_zero, List.set_cons_succ]
      refine wpAnyK_take (i := 6) (v := ?_) rfl (by kernel_rfl) (fun _ _ _ h => h) (Or.inl ⟨by rfl, ?_⟩) (by assumption) ?_
      rotate_left
      · (intro w hSw; (try dsimp only at hSw); go_simp; try with_reducible rfl)
      try simp only [Act.put, List.getElem_toArray, List.getElem_cons_zero, List.getElem_cons_succ, List.setIfInBounds_toArray, List.set_cons_zero, List.set_cons_succ]
      refine wpAnyK_take (i := 9) (v := ?_) rfl (by kernel_rfl) (fun _ _ _ h => h) (Or.inl ⟨by rfl, ?_⟩) (by assumption) ?_
      rotate_left
      · (intro w hSw; (try dsimp only at hSw); go_simp; try with_reducible rfl)
      try simp only [Act.put, List.getElem_toArray, List.getElem_cons_zero, List.getElem_cons_succ, List.setIfInBounds_toArray, List.set_cons_zero, List.set_cons_succ]
      refine wpAnyK_done (by kernel_rfl) ?_
      simp only [List.drop_succ_cons, List.drop_zero]
      clear hHeld2
      obtain ⟨⟨c0, c1, c2, f0, f1, f2⟩, c3, c4, c5, c6, c7, c8, c9, f3, f4, f5, f6, f7, f8, f9⟩ := T2.out.pr
      have HQ := Lib.hid (T2.out.put9 (.int .i64 m))
      go_wp2_with fail
      go_meet
      exact HQ
    · have t1i : ¬ (s1 : Int) < (s2 : Int) := by omega
      have t3 : decide ((s1 : Int) < (s2 : Int)) = false := decide_eq_false t1i

      have hmi : (s1 : Int) + (L : Int) = (m : Int) := by omega
      have hmw : IntKind.i64.wrap (m : Int) = (m : Int) := IntWalk.i64_in _ ⟨by omega, by omega⟩
      clear hl hm
      refine wp_region_keeps (fun u => SNS w w2.heap.size ⟨a3, n3, cap3, r1, k1, a4, n4, cap4, r2, k2, 0, 0, L, 0⟩ x1 x2 (.slice none 0 0) (.slice none 0 0) (.int .i64 L) (.int .i64 0) u) 10 2 (by kernel_rfl) (by kernel_rfl) (sns_of N8d.out) (fun hHeld0 => ?_)
      refine wpAnyK_take (i := 0) (v := ?_) rfl (by kernel_rfl) (fun _ _ _ h => h) (Or.inl ⟨by rfl, ?_⟩) (by assumption) ?_
      rotate_left
      · (intro w hSw; (try dsimp only at hSw); go_simp; try with_reducible rfl)
      try simp only [Act.put, List.getElem_toArray, List.getElem_cons_zero, List.getElem_cons_succ, List.setIfInBounds_toArray, List.set_cons_zero, List.set_cons_succ]
      refine wpAnyK_take (i := 1) (v := ?_) rfl (by kernel_rfl) (fun _ _ _ h => h) (Or.inl ⟨by rfl, ?_⟩) (by assumption) ?_
      rotate_left
      · (intro w hSw; (try dsimp only at hSw); go_simp; try with_reducible rfl)
      try simp only [Act.put, List.getElem_toArray, List.getElem_cons_zero, List.getElem_cons_succ, List.setIfInBounds_toArray, List.set_cons_zero, List.set_cons_succ]
      refine wpAnyK_take (i := 3) (v := ?_) rfl (by kernel_rfl) (fun _ _ _ h => h) (Or.inl ⟨by rfl, ?_⟩) (by assumption) ?_
      rotate_left
      · (intro w hSw; (try dsimp only at hSw); go_simp; try with_reducible rfl)
      try simp only [Act.put, List.getElem_toArray, List.getElem_cons_zero, List.getElem_cons_succ, List.setIfInBounds_toArray, List.set_cons_zero, List.set_cons_succ]
      refine wpAnyK_take (i := 4) (v := ?_) rfl (by kernel_rfl) (fun _ _ _ h => h) (Or.inl ⟨by rfl, ?_⟩) (by assumption) ?_
      rotate_left
      · (intro w hSw; (try dsimp only at hSw); go_simp; try with_reducible rfl)
      try simp only [Act.put, List.getElem_toArray, List.getElem_cons_zero, List.getElem_cons_succ, List.setIfInBounds_toArray, List.set_cons_zero, List.set_cons_succ]
      refine wpAnyK_take (i := 7) (v := ?_) rfl (by kernel_rfl) (fun _ _ _ h => h) (Or.inl ⟨by rfl, ?_⟩) (by assumption) ?_
      rotate_left
      · (intro w hSw; (try dsimp only at hSw); go_simp; try with_reducible rfl)
      try simp only [Act.put, List.getElem_toArray, List.getElem_cons_zero, List.getElem_cons_succ, List.setIfInBounds_toArray, List.set_cons_zero, List.set_cons_succ]
      refine wpAnyK_take (i := 8) (v := ?_) rfl (by kernel_rfl) (fun _ _ _ h => h) (Or.inl ⟨by rfl, ?_⟩) (by assumption) ?_
      rotate_left
      · (intro w hSw; (try dsimp only at hSw); go_simp; try with_reducible rfl)
      try simp only [Act.put, List.getElem_toArray, List.getElem_cons_zero, List.getElem_cons_succ, List.setIfInBounds_toArray, List.set_cons_zero, List.set_cons_succ]
      refine wpAnyK_step (i := 2) rfl (by kernel_rfl) (fun K hK => ?_)
      go_simp
      with_reducible refine (start_i a3 n3 cap3 x1 r1 k1 GX.out.1 NX.out.1 s1 S1.out _ N8d.out.r1).mono ?_
      rintro e u3 ⟨rfl, hb⟩
      have T1 := Lib.hid (N8d.out.call hb)
      clear hb
      refine hK.out _ _ (sns_of T1.out) (fun hHeld1 => ?_)
      clear hK K hHeld0
      try simp only [Act.put, List.getElem_toArray, List.getElem_cons_zero, List.getElem_cons_succ, List.setIfInBounds_toArray, List.set_cons_zero, List.set_cons_succ]
      refine wpAnyK_step (i := 5) rfl (by kernel_rfl) (fun K hK => ?_)
      go_simp
      with_reducible refine (start_i a4 n4 cap4 x2 r2 k2 GX.out.2 NX.out.2 s2 S2.out _ T1.out.r2).mono ?_
      rintro e u4 ⟨rfl, hb⟩
      have T2 := Lib.hid (T1.out.call hb)
      clear hb
      refine hK.out _ _ (sns_of T2.out) (fun hHeld2 => ?_)
      clear hK K hHeld1
      try simp only [Act.put, List.getElem_toArray, List.getElem_cons_zero, List.getElem_cons_succ, List.setIfInBounds_toArray, List.set_cons_zero, List.set_cons_succ]
      refine wpAnyK_take (i := 6) (v := ?_) rfl (by kernel_rfl) (fun _ _ _ h => h) (Or.inl ⟨by rfl, ?_⟩) (by assumption) ?_
      rotate_left
      · (intro w hSw; (try dsimp only at hSw); go_simp; try with_reducible rfl)
      try simp only [Act.put, List.getElem_toArray, List.getElem_cons_zero, List.getElem_cons_succ, List.setIfInBounds_toArray, List.set_cons_zero, List.set_cons_succ]
      refine wpAnyK_take (i := 9) (v := ?_) rfl (by kernel_rfl) (fun _ _ _ h => h) (Or.inl ⟨by rfl, ?_⟩) (by assumption) ?_
      rotate_left
      · (intro w hSw; (try dsimp only at hSw); go_simp; try with_reducible rfl)
      try simp only [Act.put, List.getElem_toArray, List.getElem_cons_zero, List.getElem_cons_succ, List.setIfInBounds_toArray, List.set_cons_zero, List.set_cons_succ]
      refine wpAnyK_done (by kernel_rfl) ?_
      simp only [List.drop_succ_cons, List.drop_zero]
      clear hHeld2
      obtain ⟨⟨c0, c1, c2, f0, f1, f2⟩, c3, c4, c5, c6, c7, c8, c9, f3, f4, f5, f6, f7, f8, f9⟩ := T2.out.pr
      have HQ := Lib.hid (T2.out.put9 (.int .i64 m))
      go_wp2_with fail
      go_meet
      exact HQ
  case rest =>
    obtain ⟨w9, rfl⟩ : ∃ u : World, u = wc := ⟨_, rfl⟩
    have N9 := hcut
    clear hcut N8 N8d hcase
    obtain ⟨⟨c0, c1, c2, f0, f1, f2⟩, c3, c4, c5, c6, c7, c8, c9, f3, f4, f5, f6, f7, f8, f9⟩ := N9.out.pr
    have ei1 : In64 (r2 : Int) := ⟨by omega, by omega⟩
    have ei2 : In64 k2 := ⟨by have := GX.out.2.i0; omega, by have := GX.out.2.i1; omega⟩
    have HE := Lib.hid (And.intro ei1 ei2)
    have hml : m ≤ 519 := by have := HD.out.reach_le; have := HM.out; have := GX.out.1.p3; have := GX.out.2.p3; have := S1.out; have := S2.out; have := GX.out.1.few; have := GX.out.2.few; omega
    clear ei1 ei2
    by_cases f2 : InfC x2
    · have HF := Lib.hid f2
      have hn4 : x2.length = n4 := N9.out.r2.len
      have hx1 : 1 ≤ x2.length := by have := S2.out; omega
      have hx4 : x2.length ≤ 400 := GX.out.2.few
      have HR := Lib.hid (show n4 - 1 = reach x1 r1 x2 r2 L by rw [reach_inf f2, hn4])
      have RL := Lib.hid (show reach x1 r1 x2 r2 L ≤ 519 from HD.out.reach_le)
      obtain ⟨R, hR⟩ : ∃ R, n4 - 1 = R := ⟨_, rfl⟩
      have hRi : (n4 : Int) - 1 = (R : Int) := by omega
      have hRw : IntKind.i64.wrap (R : Int) = (R : Int) := IntWalk.i64_in _ ⟨by omega, by omega⟩
      rw [hR] at HR
      clear f2 hn4 hx1 hx4 hR
      go_wp2_with fail
      refine (finite_any a4 n4 cap4 x2 r2 k2 HE.out.1 HE.out.2 false (finB_inf HF.out) _ N9.out.r2).mono ?_
      rintro e w10 ⟨rfl, hb⟩
      have N10 := Lib.hid (N9.out.call hb)
      clear c0 c1 c2 f0 f1 f2 c3 c4 c5 c6 c7 c8 c9 f3 f4 f5 f6 f7 f8 f9
      obtain ⟨⟨c0, c1, c2, f0, f1, f2⟩, c3, c4, c5, c6, c7, c8, c9, f3, f4, f5, f6, f7, f8, f9⟩ := N9.out.pr.below hb
      clear hb
      obtain ⟨W11, hW11⟩ : ∃ W', w10.setCell ⟨w2.heap.size, 9, none⟩ (.int .i64 R) = W' := ⟨_, rfl⟩
      have N11 := Lib.hid (show SN w w2.heap.size ⟨a3, n3, cap3, r1, k1, a4, n4, cap4, r2, k2, 0, 0, L, 0⟩ x1 x2 (.slice none 0 0) (.slice none 0 0) (.int .i64 L) (.int .i64 R) W11 by rw [← hW11]; exact N10.out.put9 _)
      have HW11 := Lib.hid hW11
      clear hW11
      go_upto_region 14 with fail
      try rw [HW11.out]
      clear c0 c1 c2 f0 f1 f2 c3 c4 c5 c6 c7 c8 c9 f3 f4 f5 f6 f7 f8 f9
      obtain ⟨⟨c0, c1, c2, f0, f1, f2⟩, c3, c4, c5, c6, c7, c8, c9, f3, f4, f5, f6, f7, f8, f9⟩ := N11.out.pr
      have ND := Lib.hid (N11.out.call (Below.refl _ _).drew)
      have hRle : R ≤ 519 := by rw [HR.out]; exact RL.out
      clear c0 c1 c2 f0 f1 f2 c3 c4 c5 c6 c7 c8 c9 f3 f4 f5 f6 f7 f8 f9
      refine wp_region_keeps (fun u => SNS w w2.heap.size ⟨a3, n3, cap3, r1, k1, a4, n4, cap4, r2, k2, 0, 0, L, 0⟩ x1 x2 (.slice none 0 0) (.slice none 0 0) (.int .i64 L) (.int .i64 R) u) 9 3 (by kernel_rfl) (by kernel_rfl) (sns_of ND.out) (fun hHeld0 => ?_)
      refine wpAnyK_take (i := 0) (v := ?_) rfl (by kernel_rfl) (fun _ _ _ h => h) (Or.inl ⟨by rfl, ?_⟩) (by assumption) ?_
      rotate_left
      · (intro w hSw; (try dsimp only at hSw); go_simp; try with_reducible rfl)
      try simp only [Act.put, List.getElem_toArray, List.getElem_cons_zero, List.getElem_cons_succ, List.setIfInBounds_toArray, List.set_cons_zero, List.set_cons_succ]
      refine wpAnyK_take (i := 1) (v := ?_) rfl (by kernel_rfl) (fun _ _ _ h => h) (Or.inl ⟨by rfl, ?_⟩) (by assumption) ?_
      rotate_left
      · (intro w hSw; (try dsimp only at hSw); go_simp; try with_reducible rfl)
      try simp only [Act.put, List.getElem_toArray, List.getElem_cons_zero, List.getElem_cons_succ, List.setIfInBounds_toArray, List.set_cons_zero, List.set_cons_succ]
      refine wpAnyK_take (i := 3) (v := ?_) rfl (by kernel_rfl) (fun _ _ _ h => h) (Or.inl ⟨by rfl, ?_⟩) (by assumption) ?_
      rotate_left
      · (intro w hSw; (try dsimp only at hSw); go_simp; try with_reducible rfl)
      try simp only [Act.put, List.getElem_toArray, List.getElem_cons_zero, List.getElem_cons_succ, List.setIfInBounds_toArray, List.set_cons_zero, List.set_cons_succ]
      refine wpAnyK_take (i := 4) (v := ?_) rfl (by kernel_rfl) (fun _ _ _ h => h) (Or.inl ⟨by rfl, ?_⟩) (by assumption) ?_
      rotate_left
      · (intro w hSw; (try dsimp only at hSw); go_simp; try with_reducible rfl)
      try simp only [Act.put, List.getElem_toArray, List.getElem_cons_zero, List.getElem_cons_succ, List.setIfInBounds_toArray, List.set_cons_zero, List.set_cons_succ]
      refine wpAnyK_take (i := 5) (v := ?_) rfl (by kernel_rfl) (fun _ _ _ h => h) (Or.inl ⟨by rfl, ?_⟩) (by assumption) ?_
      rotate_left
      · (intro w hSw; (try dsimp only at hSw); go_simp; try with_reducible rfl)
      try simp only [Act.put, List.getElem_toArray, List.getElem_cons_zero, List.getElem_cons_succ, List.setIfInBounds_toArray, List.set_cons_zero, List.set_cons_succ]
      refine wpAnyK_take (i := 6) (v := ?_) rfl (by kernel_rfl) (fun _ _ _ h => h) (Or.inl ⟨by rfl, ?_⟩) (by assumption) ?_
      rotate_left
      · (intro w hSw; (try dsimp only at hSw); go_simp; try with_reducible rfl)
      try simp only [Act.put, List.getElem_toArray, List.getElem_cons_zero, List.getElem_cons_succ, List.setIfInBounds_toArray, List.set_cons_zero, List.set_cons_succ]
      refine wpAnyK_step (i := 2) rfl (by kernel_rfl) (fun K hK => ?_)
      go_simp
      with_reducible refine (listed_any a3 n3 cap3 x1 r1 k1 GX.out.1 1040 1040 rfl (by omega) _ ND.out.r1).mono ?_
      rintro e u3 ⟨la, rfl, hb, hla, hra⟩
      have T1 := Lib.hid (ND.out.call hb)
      have RA := Lib.hid (And.intro (Nat.lt_of_lt_of_le ND.out.pr.lt hla) hra)
      clear hb hla hra
      refine hK.out _ _ (sns_of T1.out) (fun hHeld1 => ?_)
      clear hK K hHeld0
      try simp only [Act.put, List.getElem_toArray, List.getElem_cons_zero, List.getElem_cons_succ, List.setIfInBounds_toArray, List.set_cons_zero, List.set_cons_succ]
      refine wpAnyK_take (i := 8) (v := ?_) rfl (by kernel_rfl) (fun _ _ _ h => h) (Or.inl ⟨by rfl, ?_⟩) (by assumption) ?_
      rotate_left
      · (intro w hSw; (try dsimp only at hSw); go_simp; try with_reducible rfl)
      try simp only [Act.put, List.getElem_toArray, List.getElem_cons_zero, List.getElem_cons_succ, List.setIfInBounds_toArray, List.set_cons_zero, List.set_cons_succ]
      refine wpAnyK_step (i := 7) rfl (by kernel_rfl) (fun K hK => ?_)
      go_simp
      with_reducible refine (listed_any a4 n4 cap4 x2 r2 k2 GX.out.2 _ R rfl (by omega) _ T1.out.r2).mono ?_
      rintro e u4 ⟨lb, rfl, hb, hlb, hrb⟩
      have T2 := Lib.hid (T1.out.call hb)
      have RB := Lib.hid (And.intro (And.intro RA.out.1 (RA.out.2.under hb)) (And.intro (Nat.lt_of_lt_of_le T1.out.pr.lt hlb) hrb))
      clear hb hlb hrb
      refine hK.out _ _ (sns_of T2.out) (fun hHeld2 => ?_)
      clear hK K hHeld1
      try simp only [Act.put, List.getElem_toArray, List.getElem_cons_zero, List.getElem_cons_succ, List.setIfInBounds_toArray, List.set_cons_zero, List.set_cons_succ]
      refine wpAnyK_done (by kernel_rfl) ?_
      simp only [List.drop_succ_cons, List.drop_zero]
      clear hHeld2
      obtain ⟨W12, hW12⟩ : ∃ W', (u4.setCell ⟨w2.heap.size, 6, none⟩ (.slice (some ⟨la, 0, none⟩) 1040 1040)).setCell ⟨w2.heap.size, 7, none⟩ (.slice (some ⟨lb, 0, none⟩) R R) = W' := ⟨_, rfl⟩
      have h9 := HS5.out
      have N12 := Lib.hid (show PdB W12 w2.heap.size ⟨a3, n3, cap3, r1, k1, a4, n4, cap4, r2, k2, la, lb, L, R⟩ ∧ PIn ⟨a3, n3, cap3, r1, k1, a4, n4, cap4, r2, k2, la, lb, L, R⟩ x1 x2 W12 ∧ Pd W12 (w.heap.size + 2) (.slice none 0 0) (.int .i64 0) (.int .i64 0) (.slice none 0 0) (.int .i64 0) (.int .i64 0) (.slice none 0 0) (.slice none 0 0) (.int .i64 0) (.int .i64 0) ∧ Below w.heap.size w W12 by
        rw [← hW12]
        have h1 := RB.out.1.1
        have h2 := RB.out.2.1
        have q3 : ∀ x, a3 = some x → 1 ≤ n3 → x.block ≠ w2.heap.size := fun x h _ => by have := T2.out.f1 x h; omega
        have q4 : ∀ x, a4 = some x → 1 ≤ n4 → x.block ≠ w2.heap.size := fun x h _ => by have := T2.out.f2 x h; omega
        exact ⟨T2.out.pr.set67 _ _, ⟨(T2.out.r1.store q3 _ _).store q3 _ _, (T2.out.r2.store q4 _ _).store q4 _ _, (RB.out.1.2.other (by omega) _ _).other (by omega) _ _, (RB.out.2.2.other (by omega) _ _).other (by omega) _ _⟩, (T2.out.res.other (by omega) _ _).other (by omega) _ _, (T2.out.below.setCell (p := ⟨w2.heap.size, 6, none⟩) (by show w.heap.size ≤ w2.heap.size; omega) _).setCell (p := ⟨w2.heap.size, 7, none⟩) (by show w.heap.size ≤ w2.heap.size; omega) _⟩)
      have FX := Lib.hid (And.intro T2.out.f1 T2.out.f2)
      have RBL := Lib.hid (And.intro RB.out.1.1 RB.out.2.1)
      obtain ⟨⟨c0, c1, c2, f0, f1, f2⟩, c3, c4, c5, c6, c7, c8, c9, f3, f4, f5, f6, f7, f8, f9⟩ := T2.out.pr
      have HW12 := Lib.hid hW12
      clear hW12
      go_upto_region 15 with fail
      try rw [HW12.out]
      clear c0 c1 c2 f0 f1 f2 c3 c4 c5 c6 c7 c8 c9 f3 f4 f5 f6 f7 f8 f9
      obtain ⟨⟨c0, c1, c2, f0, f1, f2⟩, c3, c4, c5, c6, c7, c8, c9, f3, f4, f5, f6, f7, f8, f9⟩ := N12.out.1
      obtain ⟨⟨d0, d1, d2, e0, e1, e2⟩, d3, d4, d5, d6, d7, d8, d9, e3, e4, e5, e6, e7, e8, e9⟩ := N12.out.2.2.1
      have HP := Lib.hid (show GivesPair8 x1 r1 k1 x2 r2 k2 L w (.returned (.tuple #[dpV ⟨a3, n3, cap3, r1, k1, a4, n4, cap4, r2, k2, la, lb, L, R⟩, .int .i64 0])) (((((((((((W12.setCell ⟨w.heap.size + 2, 0, none⟩ (.slice a3 n3 cap3)).setCell ⟨w.heap.size + 2, 1, none⟩ (.int .i64 r1)).setCell ⟨w.heap.size + 2, 2, none⟩ (.int .i64 k1)).setCell ⟨w.heap.size + 2, 3, none⟩ (.slice a4 n4 cap4)).setCell ⟨w.heap.size + 2, 4, none⟩ (.int .i64 r2)).setCell ⟨w.heap.size + 2, 5, none⟩ (.int .i64 k2)).setCell ⟨w.heap.size + 2, 6, none⟩ (.slice (some ⟨la, 0, none⟩) 1040 1040)).setCell ⟨w.heap.size + 2, 7, none⟩ (.slice (some ⟨lb, 0, none⟩) R R)).setCell ⟨w.heap.size + 2, 8, none⟩ (.int .i64 L)).setCell ⟨w.heap.size + 2, 9, none⟩ (.int .i64 R))) by
        have q3 : ∀ x, a3 = some x → 1 ≤ n3 → x.block ≠ w.heap.size + 2 := fun x h _ => by have := FX.out.1 x h; omega
        have q4 : ∀ x, a4 = some x → 1 ≤ n4 → x.block ≠ w.heap.size + 2 := fun x h _ => by have := FX.out.2 x h; omega
        have q5 : la ≠ w.heap.size + 2 := by have := RBL.out.1; omega
        have q6 : lb ≠ w.heap.size + 2 := by have := RBL.out.2; omega
        exact ⟨⟨a3, n3, cap3, r1, k1, a4, n4, cap4, r2, k2, la, lb, L, R⟩, rfl, below_set10 N12.out.2.2.2 (by omega) _ _ _ _ _ _ _ _ _ _, ⟨HD.out, NX.out.1, NX.out.2, HR.out⟩, ((((((((((N12.out.2.1.other10 q3 q4 q5 q6 _ _).other10 q3 q4 q5 q6 _ _).other10 q3 q4 q5 q6 _ _).other10 q3 q4 q5 q6 _ _).other10 q3 q4 q5 q6 _ _).other10 q3 q4 q5 q6 _ _).other10 q3 q4 q5 q6 _ _).other10 q3 q4 q5 q6 _ _).other10 q3 q4 q5 q6 _ _).other10 q3 q4 q5 q6 _ _), rfl, rfl, rfl, rfl, rfl⟩)
      go_wp2_with fail
      exact bodyPost_ret (v := .tuple #[dpV ⟨a3, n3, cap3, r1, k1, a4, n4, cap4, r2, k2, la, lb, L, R⟩, .int .i64 0]) (by simp [results, Tryz.results80, go_sem, d0, d1, d2, d3, d4, d5, d6, d7, d8, d9]) rfl HP.out
    · have HF := Lib.hid f2
      have HR := Lib.hid (show m = reach x1 r1 x2 r2 L by rw [reach_fin f2]; exact HM.out.symm)
      have RL := Lib.hid (show reach x1 r1 x2 r2 L ≤ 519 from HD.out.reach_le)
      clear f2
      go_wp2_with fail
      refine (finite_any a4 n4 cap4 x2 r2 k2 HE.out.1 HE.out.2 true (finB_fin ((okC_iff x2 r2 k2).2 GX.out.2) HF.out) _ N9.out.r2).mono ?_
      rintro e w10 ⟨rfl, hb⟩
      have N11 := Lib.hid (N9.out.call hb)
      clear c0 c1 c2 f0 f1 f2 c3 c4 c5 c6 c7 c8 c9 f3 f4 f5 f6 f7 f8 f9
      obtain ⟨⟨c0, c1, c2, f0, f1, f2⟩, c3, c4, c5, c6, c7, c8, c9, f3, f4, f5, f6, f7, f8, f9⟩ := N9.out.pr.below hb
      clear hb
      go_upto_region 14 with fail
      have ND := Lib.hid (N11.out.call (Below.refl _ _).drew)
      have hRle : m ≤ 519 := by rw [HR.out]; exact RL.out
      clear c0 c1 c2 f0 f1 f2 c3 c4 c5 c6 c7 c8 c9 f3 f4 f5 f6 f7 f8 f9
      refine wp_region_keeps (fun u => SNS w w2.heap.size ⟨a3, n3, cap3, r1, k1, a4, n4, cap4, r2, k2, 0, 0, L, 0⟩ x1 x2 (.slice none 0 0) (.slice none 0 0) (.int .i64 L) (.int .i64 m) u) 9 3 (by kernel_rfl) (by kernel_rfl) (sns_of ND.out) (fun hHeld0 => ?_)
      refine wpAnyK_take (i := 0) (v := ?_) rfl (by kernel_rfl) (fun _ _ _ h => h) (Or.inl ⟨by rfl, ?_⟩) (by assumption) ?_
      rotate_left
      · (intro w hSw; (try dsimp only at hSw); go_simp; try with_reducible rfl)
      try simp only [Act.put, List.getElem_toArray, List.getElem_cons_zero, List.getElem_cons_succ, List.setIfInBounds_toArray, List.set_cons_zero, List.set_cons_succ]
      refine wpAnyK_take (i := 1) (v := ?_) rfl (by kernel_rfl) (fun _ _ _ h => h) (Or.inl ⟨by rfl, ?_⟩) (by assumption) ?_
      rotate_left
      · (intro w hSw; (try dsimp only at hSw); go_simp; try with_reducible rfl)
      try simp only [Act.put, List.getElem_toArray, List.getElem_cons_zero, List.getElem_cons_succ, List.setIfInBounds_toArray, List.set_cons_zero, List.set_cons_succ]
      refine wpAnyK_take (i := 3) (v := ?_) rfl (by kernel_rfl) (fun _ _ _ h => h) (Or.inl ⟨by rfl, ?_⟩) (by assumption) ?_
      rotate_left
      · (intro w hSw; (try dsimp only at hSw); go_simp; try with_reducible rfl)
      try simp only [Act.put, List.getElem_toArray, List.getElem_cons_zero, List.getElem_cons_succ, List.setIfInBounds_toArray, List.set_cons_zero, List.set_cons_succ]
      refine wpAnyK_take (i := 4) (v := ?_) rfl (by kernel_rfl) (fun _ _ _ h => h) (Or.inl ⟨by rfl, ?_⟩) (by assumption) ?_
      rotate_left
      · (intro w hSw; (try dsimp only at hSw); go_simp; try with_reducible rfl)
      try simp only [Act.put, List.getElem_toArray, List.getElem_cons_zero, List.getElem_cons_succ, List.setIfInBounds_toArray, List.set_cons_zero, List.set_cons_succ]
      refine wpAnyK_take (i := 5) (v := ?_) rfl (by kernel_rfl) (fun _ _ _ h => h) (Or.inl ⟨by rfl, ?_⟩) (by assumption) ?_
      rotate_left
      · (intro w hSw; (try dsimp only at hSw); go_simp; try with_reducible rfl)
      try simp only [Act.put, List.getElem_toArray, List.getElem_cons_zero, List.getElem_cons_succ, List.setIfInBounds_toArray, List.set_cons_zero, List.set_cons_succ]
      refine wpAnyK_take (i := 6) (v := ?_) rfl (by kernel_rfl) (fun _ _ _ h => h) (Or.inl ⟨by rfl, ?_⟩) (by assumption) ?_
      rotate_left
      · (intro w hSw; (try dsimp only at hSw); go_simp; try with_reducible rfl)
      try simp only [Act.put, List.getElem_toArray, List.getElem_cons_zero, List.getElem_cons_succ, List.setIfInBounds_toArray, List.set_cons_zero, List.set_cons_succ]
      refine wpAnyK_step (i := 2) rfl (by kernel_rfl) (fun K hK => ?_)
      go_simp
      with_reducible refine (listed_any a3 n3 cap3 x1 r1 k1 GX.out.1 1040 1040 rfl (by omega) _ ND.out.r1).mono ?_
      rintro e u3 ⟨la, rfl, hb, hla, hra⟩
      have T1 := Lib.hid (ND.out.call hb)
      have RA := Lib.hid (And.intro (Nat.lt_of_lt_of_le ND.out.pr.lt hla) hra)
      clear hb hla hra
      refine hK.out _ _ (sns_of T1.out) (fun hHeld1 => ?_)
      clear hK K hHeld0
      try simp only [Act.put, List.getElem_toArray, List.getElem_cons_zero, List.getElem_cons_succ, List.setIfInBounds_toArray, List.set_cons_zero, List.set_cons_succ]
      refine wpAnyK_take (i := 8) (v := ?_) rfl (by kernel_rfl) (fun _ _ _ h => h) (Or.inl ⟨by rfl, ?_⟩) (by assumption) ?_
      rotate_left
      · (intro w hSw; (try dsimp only at hSw); go_simp; try with_reducible rfl)
      try simp only [Act.put, List.getElem_toArray, List.getElem_cons_zero, List.getElem_cons_succ, List.setIfInBounds_toArray, List.set_cons_zero, List.set_cons_succ]
      refine wpAnyK_step (i := 7) rfl (by kernel_rfl) (fun K hK => ?_)
      go_simp
      with_reducible refine (listed_any a4 n4 cap4 x2 r2 k2 GX.out.2 _ m rfl (by omega) _ T1.out.r2).mono ?_
      rintro e u4 ⟨lb, rfl, hb, hlb, hrb⟩
      have T2 := Lib.hid (T1.out.call hb)
      have RB := Lib.hid (And.intro (And.intro RA.out.1 (RA.out.2.under hb)) (And.intro (Nat.lt_of_lt_of_le T1.out.pr.lt hlb) hrb))
      clear hb hlb hrb
      refine hK.out _ _ (sns_of T2.out) (fun hHeld2 => ?_)
      clear hK K hHeld1
      try simp only [Act.put, List.getElem_toArray, List.getElem_cons_zero, List.getElem_cons_succ, List.setIfInBounds_toArray, List.set_cons_zero, List.set_cons_succ]
      refine wpAnyK_done (by kernel_rfl) ?_
      simp only [List.drop_succ_cons, List.drop_zero]
      clear hHeld2
      obtain ⟨W12, hW12⟩ : ∃ W', (u4.setCell ⟨w2.heap.size, 6, none⟩ (.slice (some ⟨la, 0, none⟩) 1040 1040)).setCell ⟨w2.heap.size, 7, none⟩ (.slice (some ⟨lb, 0, none⟩) m m) = W' := ⟨_, rfl⟩
      have h9 := HS5.out
      have N12 := Lib.hid (show PdB W12 w2.heap.size ⟨a3, n3, cap3, r1, k1, a4, n4, cap4, r2, k2, la, lb, L, m⟩ ∧ PIn ⟨a3, n3, cap3, r1, k1, a4, n4, cap4, r2, k2, la, lb, L, m⟩ x1 x2 W12 ∧ Pd W12 (w.heap.size + 2) (.slice none 0 0) (.int .i64 0) (.int .i64 0) (.slice none 0 0) (.int .i64 0) (.int .i64 0) (.slice none 0 0) (.slice none 0 0) (.int .i64 0) (.int .i64 0) ∧ Below w.heap.size w W12 by
        rw [← hW12]
        have h1 := RB.out.1.1
        have h2 := RB.out.2.1
        have q3 : ∀ x, a3 = some x → 1 ≤ n3 → x.block ≠ w2.heap.size := fun x h _ => by have := T2.out.f1 x h; omega
        have q4 : ∀ x, a4 = some x → 1 ≤ n4 → x.block ≠ w2.heap.size := fun x h _ => by have := T2.out.f2 x h; omega
        exact ⟨T2.out.pr.set67 _ _, ⟨(T2.out.r1.store q3 _ _).store q3 _ _, (T2.out.r2.store q4 _ _).store q4 _ _, (RB.out.1.2.other (by omega) _ _).other (by omega) _ _, (RB.out.2.2.other (by omega) _ _).other (by omega) _ _⟩, (T2.out.res.other (by omega) _ _).other (by omega) _ _, (T2.out.below.setCell (p := ⟨w2.heap.size, 6, none⟩) (by show w.heap.size ≤ w2.heap.size; omega) _).setCell (p := ⟨w2.heap.size, 7, none⟩) (by show w.heap.size ≤ w2.heap.size; omega) _⟩)
      have FX := Lib.hid (And.intro T2.out.f1 T2.out.f2)
      have RBL := Lib.hid (And.intro RB.out.1.1 RB.out.2.1)
      obtain ⟨⟨c0, c1, c2, f0, f1, f2⟩, c3, c4, c5, c6, c7, c8, c9, f3, f4, f5, f6, f7, f8, f9⟩ := T2.out.pr
      have HW12 := Lib.hid hW12
      clear hW12
      go_upto_region 15 with fail
      try rw [HW12.out]
      clear c0 c1 c2 f0 f1 f2 c3 c4 c5 c6 c7 c8 c9 f3 f4 f5 f6 f7 f8 f9
      obtain ⟨⟨c0, c1, c2, f0, f1, f2⟩, c3, c4, c5, c6, c7, c8, c9, f3, f4, f5, f6, f7, f8, f9⟩ := N12.out.1
      obtain ⟨⟨d0, d1, d2, e0, e1, e2⟩, d3, d4, d5, d6, d7, d8, d9, e3, e4, e5, e6, e7, e8, e9⟩ := N12.out.2.2.1
      have HP := Lib.hid (show GivesPair8 x1 r1 k1 x2 r2 k2 L w (.returned (.tuple #[dpV ⟨a3, n3, cap3, r1, k1, a4, n4, cap4, r2, k2, la, lb, L, m⟩, .int .i64 0])) (((((((((((W12.setCell ⟨w.heap.size + 2, 0, none⟩ (.slice a3 n3 cap3)).setCell ⟨w.heap.size + 2, 1, none⟩ (.int .i64 r1)).setCell ⟨w.heap.size + 2, 2, none⟩ (.int .i64 k1)).setCell ⟨w.heap.size + 2, 3, none⟩ (.slice a4 n4 cap4)).setCell ⟨w.heap.size + 2, 4, none⟩ (.int .i64 r2)).setCell ⟨w.heap.size + 2, 5, none⟩ (.int .i64 k2)).setCell ⟨w.heap.size + 2, 6, none⟩ (.slice (some ⟨la, 0, none⟩) 1040 1040)).setCell ⟨w.heap.size + 2, 7, none⟩ (.slice (some ⟨lb, 0, none⟩) m m)).setCell ⟨w.heap.size + 2, 8, none⟩ (.int .i64 L)).setCell ⟨w.heap.size + 2, 9, none⟩ (.int .i64 m))) by
        have q3 : ∀ x, a3 = some x → 1 ≤ n3 → x.block ≠ w.heap.size + 2 := fun x h _ => by have := FX.out.1 x h; omega
        have q4 : ∀ x, a4 = some x → 1 ≤ n4 → x.block ≠ w.heap.size + 2 := fun x h _ => by have := FX.out.2 x h; omega
        have q5 : la ≠ w.heap.size + 2 := by have := RBL.out.1; omega
        have q6 : lb ≠ w.heap.size + 2 := by have := RBL.out.2; omega
        exact ⟨⟨a3, n3, cap3, r1, k1, a4, n4, cap4, r2, k2, la, lb, L, m⟩, rfl, below_set10 N12.out.2.2.2 (by omega) _ _ _ _ _ _ _ _ _ _, ⟨HD.out, NX.out.1, NX.out.2, HR.out⟩, ((((((((((N12.out.2.1.other10 q3 q4 q5 q6 _ _).other10 q3 q4 q5 q6 _ _).other10 q3 q4 q5 q6 _ _).other10 q3 q4 q5 q6 _ _).other10 q3 q4 q5 q6 _ _).other10 q3 q4 q5 q6 _ _).other10 q3 q4 q5 q6 _ _).other10 q3 q4 q5 q6 _ _).other10 q3 q4 q5 q6 _ _).other10 q3 q4 q5 q6 _ _), rfl, rfl, rfl, rfl, rfl⟩)
      go_wp2_with fail
      exact bodyPost_ret (v := .tuple #[dpV ⟨a3, n3, cap3, r1, k1, a4, n4, cap4, r2, k2, la, lb, L, m⟩, .int .i64 0]) (by simp [results, Tryz.results80, go_sem, d0, d1, d2, d3, d4, d5, d6, d7, d8, d9]) rfl HP.out
end Go.Proofs.YtkienpbmoilheaaGreat
