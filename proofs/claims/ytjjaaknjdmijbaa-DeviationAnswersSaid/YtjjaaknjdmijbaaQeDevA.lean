/- The search of package deviation: the greatest of the distances that a closure gives. By the verifier's side. -/
import Derived.Test.YtjjaaknjdmijbaaQeDevMDevX
import Derived.Test.YtjjaaknjdmijbaaQePwEToRowF
import Derived.Test.YtjjaaknjdmijbaaQeRefVRefA
import Derived.BigQuiet
namespace Go.Proofs.Ytjjaaknjdmijbaa
open Go.RowKit
set_option linter.unusedSimpArgs false
set_option linter.unusedVariables false

/-- Block b holds two curves and a number, and may be written. -/
structure P7 (w : World) (b : Nat) (x0 x1 x2 y0 y1 y2 n0 : Value) : Prop where
  lo : Cur3 w b x0 x1 x2
  c3 : w.cell? ⟨b, 3, none⟩ = some y0
  c4 : w.cell? ⟨b, 4, none⟩ = some y1
  c5 : w.cell? ⟨b, 5, none⟩ = some y2
  c6 : w.cell? ⟨b, 6, none⟩ = some n0
  f3 : w.frozen? ⟨b, 3, none⟩ = false
  f4 : w.frozen? ⟨b, 4, none⟩ = false
  f5 : w.frozen? ⟨b, 5, none⟩ = false
  f6 : w.frozen? ⟨b, 6, none⟩ = false
section
variable {w w' : World} {b : Nat} {x0 x1 x2 y0 y1 y2 n0 : Value}
theorem P7.lt (h : P7 w b x0 x1 x2 y0 y1 y2 n0) : b < w.heap.size := h.lo.lt
theorem P7.below (h : P7 w b x0 x1 x2 y0 y1 y2 n0) (hb : Below w.heap.size w w') : P7 w' b x0 x1 x2 y0 y1 y2 n0 :=
  ⟨h.lo.below hb, (hb.cell (p := ⟨b, 3, none⟩) h.lt).trans h.c3, (hb.cell (p := ⟨b, 4, none⟩) h.lt).trans h.c4, (hb.cell (p := ⟨b, 5, none⟩) h.lt).trans h.c5, (hb.cell (p := ⟨b, 6, none⟩) h.lt).trans h.c6,
    (hb.frozen (p := ⟨b, 3, none⟩) h.lt).trans h.f3, (hb.frozen (p := ⟨b, 4, none⟩) h.lt).trans h.f4, (hb.frozen (p := ⟨b, 5, none⟩) h.lt).trans h.f5, (hb.frozen (p := ⟨b, 6, none⟩) h.lt).trans h.f6⟩
theorem P7.other (h : P7 w b x0 x1 x2 y0 y1 y2 n0) {q : Nat} (hq : ¬ b = q) (i : Nat) (v : Value) : P7 (w.setCell ⟨q, i, none⟩ v) b x0 x1 x2 y0 y1 y2 n0 := by
  have hb : (w.setCell ⟨q, i, none⟩ v).heap[b]? = w.heap[b]? := Below.heap_setCell _ _ _ _ hq
  exact ⟨h.lo.other hq i v, (World.cell?_of_block (w := w) (a := ⟨b, 3, none⟩) hb).trans h.c3, (World.cell?_of_block (w := w) (a := ⟨b, 4, none⟩) hb).trans h.c4, (World.cell?_of_block (w := w) (a := ⟨b, 5, none⟩) hb).trans h.c5, (World.cell?_of_block (w := w) (a := ⟨b, 6, none⟩) hb).trans h.c6,
    (World.frozen?_of_block (w := w) (a := ⟨b, 3, none⟩) hb).trans h.f3, (World.frozen?_of_block (w := w) (a := ⟨b, 4, none⟩) hb).trans h.f4, (World.frozen?_of_block (w := w) (a := ⟨b, 5, none⟩) hb).trans h.f5, (World.frozen?_of_block (w := w) (a := ⟨b, 6, none⟩) hb).trans h.f6⟩
theorem p7_new (w : World) (x0 x1 x2 y0 y1 y2 n0 : Value) (t : TypeId) : P7 (w.alloc (.cells #[x0, x1, x2, y0, y1, y2, n0] t)) w.heap.size x0 x1 x2 y0 y1 y2 n0 :=
  ⟨⟨by go_simp, by go_simp, by go_simp, by go_simp, by go_simp, by go_simp⟩, by go_simp, by go_simp, by go_simp, by go_simp, by go_simp, by go_simp, by go_simp, by go_simp⟩
end

/-- While the greatest distance is searched: the pair's box, the result's behind it. -/
structure GD (w : World) (a1 : Option Addr) (n1 cap1 p1 : Nat) (i1 : Int) (z1 : List Int) (a2 : Option Addr) (n2 cap2 p2 : Nat) (i2 : Int) (z2 : List Int) (L : Nat) (u : World) : Prop where
  pr : P7 u w.heap.size (.slice a1 n1 cap1) (.int .i64 p1) (.int .i64 i1) (.slice a2 n2 cap2) (.int .i64 p2) (.int .i64 i2) (.int .i64 L)
  res : Cur3 u (w.heap.size + 1) (.bool false) (.int .i64 0) (.int .i64 0)
  r1 : RowZ u a1 n1 cap1 z1
  r2 : RowZ u a2 n2 cap2 z2
  below : Below w.heap.size w u
abbrev GDS (w : World) (a1 : Option Addr) (n1 cap1 p1 : Nat) (i1 : Int) (z1 : List Int) (a2 : Option Addr) (n2 cap2 p2 : Nat) (i2 : Int) (z2 : List Int) (L : Nat) (u : World) : Prop :=
  u.cell? ⟨w.heap.size, 0, none⟩ = some (.slice a1 n1 cap1) ∧ u.cell? ⟨w.heap.size, 1, none⟩ = some (.int .i64 p1) ∧ u.cell? ⟨w.heap.size, 2, none⟩ = some (.int .i64 i1) ∧ u.cell? ⟨w.heap.size, 3, none⟩ = some (.slice a2 n2 cap2) ∧ u.cell? ⟨w.heap.size, 4, none⟩ = some (.int .i64 p2) ∧ u.cell? ⟨w.heap.size, 5, none⟩ = some (.int .i64 i2) ∧ u.cell? ⟨w.heap.size, 6, none⟩ = some (.int .i64 L) ∧ Hid (GD w a1 n1 cap1 p1 i1 z1 a2 n2 cap2 p2 i2 z2 L u)
section
variable {w u v : World} {a1 : Option Addr} {n1 cap1 p1 : Nat} {i1 : Int} {z1 : List Int} {a2 : Option Addr} {n2 cap2 p2 : Nat} {i2 : Int} {z2 : List Int} {L : Nat}
theorem GD.call (h : GD w a1 n1 cap1 p1 i1 z1 a2 n2 cap2 p2 i2 z2 L u) (hb : Below u.heap.size u v) : GD w a1 n1 cap1 p1 i1 z1 a2 n2 cap2 p2 i2 z2 L v :=
  ⟨h.pr.below hb, h.res.below hb, h.r1.under hb, h.r2.under hb, h.below.trans (hb.mono h.below.size)⟩
theorem gds_of (h : GD w a1 n1 cap1 p1 i1 z1 a2 n2 cap2 p2 i2 z2 L u) : GDS w a1 n1 cap1 p1 i1 z1 a2 n2 cap2 p2 i2 z2 L u := ⟨h.pr.lo.c0, h.pr.lo.c1, h.pr.lo.c2, h.pr.c3, h.pr.c4, h.pr.c5, h.pr.c6, h⟩
theorem gd_start (h1 : RowZ w a1 n1 cap1 z1) (h2 : RowZ w a2 n2 cap2 z2) {W : World} (hW : (w.alloc (.cells #[.slice a1 n1 cap1, .int .i64 p1, .int .i64 i1, .slice a2 n2 cap2, .int .i64 p2, .int .i64 i2, .int .i64 L] 130)).alloc (.cells #[.bool false, .int .i64 0, .int .i64 0] 74) = W) : GD w a1 n1 cap1 p1 i1 z1 a2 n2 cap2 p2 i2 z2 L W ∧ W.heap.size = w.heap.size + 2 := by
  subst hW
  have hA : Below w.heap.size w (w.alloc (.cells #[.slice a1 n1 cap1, .int .i64 p1, .int .i64 i1, .slice a2 n2 cap2, .int .i64 p2, .int .i64 i2, .int .i64 L] 130)) := (Below.refl _ _).alloc (Nat.le_refl _) _
  have hB : Below (w.alloc (.cells #[.slice a1 n1 cap1, .int .i64 p1, .int .i64 i1, .slice a2 n2 cap2, .int .i64 p2, .int .i64 i2, .int .i64 L] 130)).heap.size (w.alloc (.cells #[.slice a1 n1 cap1, .int .i64 p1, .int .i64 i1, .slice a2 n2 cap2, .int .i64 p2, .int .i64 i2, .int .i64 L] 130)) ((w.alloc (.cells #[.slice a1 n1 cap1, .int .i64 p1, .int .i64 i1, .slice a2 n2 cap2, .int .i64 p2, .int .i64 i2, .int .i64 L] 130)).alloc (.cells #[.bool false, .int .i64 0, .int .i64 0] 74)) := (Below.refl _ _).alloc (Nat.le_refl _) _
  have hC : Below w.heap.size w ((w.alloc (.cells #[.slice a1 n1 cap1, .int .i64 p1, .int .i64 i1, .slice a2 n2 cap2, .int .i64 p2, .int .i64 i2, .int .i64 L] 130)).alloc (.cells #[.bool false, .int .i64 0, .int .i64 0] 74)) := hA.trans (hB.mono hA.size)
  refine ⟨⟨(p7_new w (.slice a1 n1 cap1) (.int .i64 p1) (.int .i64 i1) (.slice a2 n2 cap2) (.int .i64 p2) (.int .i64 i2) (.int .i64 L) 130).below hB, Cur3.new2 w _ _ _ _ _, h1.under hC, h2.under hC, hC⟩, by simp⟩
end

/-- What the two curves of a pair are to each other: in normal form, with a common period. -/
structure PairP (z1 : List Int) (p1 : Nat) (i1 : Int) (z2 : List Int) (p2 : Nat) (i2 : Int) (L : Nat) : Prop where
  g : Good z1 p1 i1
  k : Good z2 p2 i2
  ng : NormC z1 p1 i1 z1 p1 i1
  nk : NormC z2 p2 i2 z2 p2 i2
  m : Mult p1 p2 L
  l : L ≤ 120
/-- A closure gives the distances D at the ticks below N. -/
def ClosD (fid : FuncId) (caps : Array Value) (N : Nat) (D : Nat → Int) (w : World) : Prop :=
  ∀ u, Below w.heap.size w u → ∀ t, t < N → Calls Try.prog fid (#[.int .i64 (t : Int)] ++ caps) u fun e u' => e = .returned (.int .i64 (D t)) ∧ Below u.heap.size u u'
/-- A deviation is handed back: infinite, its value, its tick. -/
def GivesDev1 (P : Bool → Int → Nat → Prop) (w : World) (e : Ending) (w' : World) : Prop :=
  ∃ i m k, e = .returned (.agg #[.bool i, .int .i64 m, .int .i64 (k : Nat)]) ∧ Below w.heap.size w w' ∧ P i m k

/-- Within the loop: the search so far, in the block d. -/
structure GL (w : World) (fid : FuncId) (caps : Array Value) (N : Nat) (D : Nat → Int) (db : Nat) (m : Int) (k t : Nat) (u : World) : Prop where
  box : Cur3 u db (.bool false) (.int .i64 m) (.int .i64 k)
  res : Cur3 u (w.heap.size + 1) (.bool false) (.int .i64 0) (.int .i64 0)
  d : w.heap.size + 1 < db
  most : Most D t m k
  below : Below w.heap.size w u
theorem GL.call {w : World} {fid : FuncId} {caps : Array Value} {N : Nat} {D : Nat → Int} {db : Nat} {m : Int} {k t : Nat} {u v : World} (h : GL w fid caps N D db m k t u) (hb : Below u.heap.size u v) : GL w fid caps N D db m k t v :=
  ⟨h.box.below hb, h.res.below hb, h.d, h.most, h.below.trans (hb.mono h.below.size)⟩

set_option maxRecDepth 100000 in
set_option maxHeartbeats 6400000 in
theorem greatest_any (a1 : Option Addr) (n1 cap1 : Nat) (z1 : List Int) (p1 : Nat) (i1 : Int) (a2 : Option Addr) (n2 cap2 : Nat) (z2 : List Int) (p2 : Nat) (i2 : Int) (L : Nat) (hp : PairP z1 p1 i1 z2 p2 i2 L) (fid : FuncId) (caps : Array Value) (D : Nat → Int) (N : Nat) (hN : max (z1.length - p1) (z2.length - p2) + L = N)
    (hD : ∀ t, t < N → -9223372036854775808 ≤ D t ∧ D t ≤ 4611686018427387904) (w : World) (h1 : RowZ w a1 n1 cap1 z1) (h2 : RowZ w a2 n2 cap2 z2)
    (eg : ∀ (args : Array Value) (w : World), (callFunc fid args).run Try.prog w = .ok (.enter fid args) w) (hcl : ClosD fid caps N D w) :
    Calls Try.prog 122 #[(.agg #[.slice a1 n1 cap1, .int .i64 p1, .int .i64 i1, .slice a2 n2 cap2, .int .i64 p2, .int .i64 i2, .int .i64 L]), .func (.func fid) #[] caps] w (GivesDev1 (GreatP (growI z2 p2 i2 L < growI z1 p1 i1 L) D N) w) := by
  obtain ⟨W, hW⟩ : ∃ W, (w.alloc (.cells #[.slice a1 n1 cap1, .int .i64 p1, .int .i64 i1, .slice a2 n2 cap2, .int .i64 p2, .int .i64 i2, .int .i64 L] 130)).alloc (.cells #[.bool false, .int .i64 0, .int .i64 0] 74) = W := ⟨_, rfl⟩
  obtain ⟨t0, hsz⟩ := gd_start (L := L) (p1 := p1) (i1 := i1) (p2 := p2) (i2 := i2) h1 h2 hW
  have T0 := Lib.hid (t0.call ((Below.refl _ _).drew))
  have HSZ := Lib.hid hsz
  have HW := Lib.hid hW
  have HP := Lib.hid hp
  have HD := Lib.hid hD
  have HCL := Lib.hid hcl
  have EG := Lib.hid eg
  obtain ⟨x, hx⟩ : ∃ x, growI z1 p1 i1 L = x := ⟨_, rfl⟩
  obtain ⟨y, hy⟩ : ∃ y, growI z2 p2 i2 L = y := ⟨_, rfl⟩
  have HX := Lib.hid hx
  have HY := Lib.hid hy
  obtain ⟨s1, hs1⟩ : ∃ s, z1.length - p1 = s := ⟨_, rfl⟩
  obtain ⟨s2, hs2⟩ : ∃ s, z2.length - p2 = s := ⟨_, rfl⟩
  rw [hs1, hs2] at hN
  have S1 := Lib.hid (show z1.length = s1 + p1 by have := hp.g.p3; omega)
  have S2 := Lib.hid (show z2.length = s2 + p2 by have := hp.k.p3; omega)
  have bs1 : s1 ≤ 400 := by have := hp.g.few; omega
  have bs2 : s2 ≤ 400 := by have := hp.k.few; omega
  have bl : L ≤ 120 := hp.l
  have HNL := Lib.hid (show 1 ≤ N by have := hp.m.one; omega)
  rw [hx, hy]
  have hcase : (s1 < s2 ∧ s2 + L = N) ∨ (¬ s1 < s2 ∧ s1 + L = N) := by omega
  clear t0 hsz hW hp hD hcl eg hx hy hs1 hs2 hN h1 h2
  go_enter Try.func122, Try.ntmps122
  go_upto_region 1 with fail
  try rw [HW.out]
  obtain ⟨⟨c0, c1, c2, f0, f1, f2⟩, c3, c4, c5, c6, f3, f4, f5, f6⟩ := T0.out.pr
  by_cases hl : y < x
  · have t3 : decide (y < x) = true := decide_eq_true hl
    clear c0 c1 c2 f0 f1 f2 c3 c4 c5 c6 f3 f4 f5 f6
    refine wp_region_keeps (fun u => GDS w a1 n1 cap1 p1 i1 z1 a2 n2 cap2 p2 i2 z2 L u) 10 1 (by kernel_rfl) (by kernel_rfl) (gds_of T0.out) (fun hHeld0 => ?_)
    refine wpAnyK_take (i := 0) (v := ?_) rfl (by kernel_rfl) (fun _ _ _ h => h) (Or.inl ⟨by rfl, ?_⟩) (by assumption) ?_
    rotate_left
    · (intro w hSw; (try dsimp only at hSw); go_simp; try with_reducible rfl)
    try simp only [Act.put, List.getElem_toArray, List.getElem_cons_zero, List.getElem_cons_succ, List.setIfInBounds_toArray, List.set_cons_zero, List.set_cons_succ]
    refine wpAnyK_take (i := 1) (v := ?_) rfl (by kernel_rfl) (fun _ _ _ h => h) (Or.inl ⟨by rfl, ?_⟩) (by assumption) ?_
    rotate_left
    · (intro w hSw; (try dsimp only at hSw); go_simp; try with_reducible rfl)
    try simp only [Act.put, List.getElem_toArray, List.getElem_cons_zero, List.getElem_cons_succ, List.setIfInBounds_toArray, List.set_cons_zero, List.set_cons_succ]
    refine wpAnyK_take (i := 2) (v := ?_) rfl (by kernel_rfl) (fun _ _ _ h => h) (Or.inl ⟨by rfl, ?_⟩) (by assumption) ?_
    rotate_left
    · (intro w hSw; (try dsimp only at hSw); go_simp; try with_reducible rfl)
    try simp only [Act.put, List.getElem_toArray, List.getElem_cons_zero, List.getElem_cons_succ, List.setIfInBounds_toArray, List.set_cons_zero, List.set_cons_succ]
    refine wpAnyK_take (i := 3) (v := ?_) rfl (by kernel_rfl) (fun _ _ _ h => h) (Or.inl ⟨by rfl, ?_⟩) (by assumption) ?_
    rotate_left
    · (intro w hSw; (try dsimp only at hSw); go_simp; try with_reducible rfl)
    try simp only [Act.put, List.getElem_toArray, List.getElem_cons_zero, List.getElem_cons_succ, List.setIfInBounds_toArray, List.set_cons_zero, List.set_cons_succ]
    refine wpAnyK_take (i := 5) (v := ?_) rfl (by kernel_rfl) (fun _ _ _ h => h) (Or.inl ⟨by rfl, ?_⟩) (by assumption) ?_
    rotate_left
    · (intro w hSw; (try dsimp only at hSw); go_simp; try with_reducible rfl)
    try simp only [Act.put, List.getElem_toArray, List.getElem_cons_zero, List.getElem_cons_succ, List.setIfInBounds_toArray, List.set_cons_zero, List.set_cons_succ]
    refine wpAnyK_take (i := 6) (v := ?_) rfl (by kernel_rfl) (fun _ _ _ h => h) (Or.inl ⟨by rfl, ?_⟩) (by assumption) ?_
    rotate_left
    · (intro w hSw; (try dsimp only at hSw); go_simp; try with_reducible rfl)
    try simp only [Act.put, List.getElem_toArray, List.getElem_cons_zero, List.getElem_cons_succ, List.setIfInBounds_toArray, List.set_cons_zero, List.set_cons_succ]
    refine wpAnyK_take (i := 7) (v := ?_) rfl (by kernel_rfl) (fun _ _ _ h => h) (Or.inl ⟨by rfl, ?_⟩) (by assumption) ?_
    rotate_left
    · (intro w hSw; (try dsimp only at hSw); go_simp; try with_reducible rfl)
    try simp only [Act.put, List.getElem_toArray, List.getElem_cons_zero, List.getElem_cons_succ, List.setIfInBounds_toArray, List.set_cons_zero, List.set_cons_succ]
    refine wpAnyK_take (i := 8) (v := ?_) rfl (by kernel_rfl) (fun _ _ _ h => h) (Or.inl ⟨by rfl, ?_⟩) (by assumption) ?_
    rotate_left
    · (intro w hSw; (try dsimp only at hSw); go_simp; try with_reducible rfl)
    try simp only [Act.put, List.getElem_toArray, List.getElem_cons_zero, List.getElem_cons_succ, List.setIfInBounds_toArray, List.set_cons_zero, List.set_cons_succ]
    refine wpAnyK_step (i := 4) rfl (by kernel_rfl) (fun K hK => ?_)
    go_simp
    with_reducible refine (growth_any a1 n1 cap1 z1 p1 i1 HP.out.g L HP.out.l x HX.out _ T0.out.r1).mono ?_
    rintro e u3 ⟨rfl, hb⟩
    have T1 := Lib.hid (T0.out.call hb)
    clear hb
    refine hK.out _ _ (gds_of T1.out) (fun hHeld1 => ?_)
    clear hK K hHeld0
    try simp only [Act.put, List.getElem_toArray, List.getElem_cons_zero, List.getElem_cons_succ, List.setIfInBounds_toArray, List.set_cons_zero, List.set_cons_succ]
    refine wpAnyK_step (i := 9) rfl (by kernel_rfl) (fun K hK => ?_)
    go_simp
    with_reducible refine (growth_any a2 n2 cap2 z2 p2 i2 HP.out.k L HP.out.l y HY.out _ T1.out.r2).mono ?_
    rintro e u4 ⟨rfl, hb⟩
    have T2 := Lib.hid (T1.out.call hb)
    clear hb
    refine hK.out _ _ (gds_of T2.out) (fun hHeld2 => ?_)
    clear hK K hHeld1
    try simp only [Act.put, List.getElem_toArray, List.getElem_cons_zero, List.getElem_cons_succ, List.setIfInBounds_toArray, List.set_cons_zero, List.set_cons_succ]
    refine wpAnyK_done (by kernel_rfl) ?_
    simp only [List.drop_succ_cons, List.drop_zero]
    clear hHeld2
    obtain ⟨r0, r1', r2', g0, g1, g2⟩ := T2.out.res
    have HB := Lib.hid (show Below w.heap.size w (((u4.setCell ⟨w.heap.size + 1, 0, none⟩ (.bool true)).setCell ⟨w.heap.size + 1, 1, none⟩ (.int .i64 0)).setCell ⟨w.heap.size + 1, 2, none⟩ (.int .i64 0)) from below_set3 T2.out.below (Nat.le_succ _) _ _ _)
    go_wp2_with fail
    exact bodyPost_ret (v := .agg #[.bool true, .int .i64 0, .int .i64 0]) (by simp [results, Try.results122, go_sem, r0, r1', r2']) rfl ⟨true, 0, 0, rfl, HB.out, .inl ⟨rfl, rfl, rfl, .inl hl⟩⟩
  · have t3 : decide (y < x) = false := decide_eq_false hl
    have NF := Lib.hid hl
    clear c0 c1 c2 f0 f1 f2 c3 c4 c5 c6 f3 f4 f5 f6
    refine wp_region_keeps (fun u => GDS w a1 n1 cap1 p1 i1 z1 a2 n2 cap2 p2 i2 z2 L u) 10 1 (by kernel_rfl) (by kernel_rfl) (gds_of T0.out) (fun hHeld0 => ?_)
    refine wpAnyK_take (i := 0) (v := ?_) rfl (by kernel_rfl) (fun _ _ _ h => h) (Or.inl ⟨by rfl, ?_⟩) (by assumption) ?_
    rotate_left
    · (intro w hSw; (try dsimp only at hSw); go_simp; try with_reducible rfl)
    try simp only [Act.put, List.getElem_toArray, List.getElem_cons_zero, List.getElem_cons_succ, List.setIfInBounds_toArray, List.set_cons_zero, List.set_cons_succ]
    refine wpAnyK_take (i := 1) (v := ?_) rfl (by kernel_rfl) (fun _ _ _ h => h) (Or.inl ⟨by rfl, ?_⟩) (by assumption) ?_
    rotate_left
    · (intro w hSw; (try dsimp only at hSw); go_simp; try with_reducible rfl)
    try simp only [Act.put, List.getElem_toArray, List.getElem_cons_zero, List.getElem_cons_succ, List.setIfInBounds_toArray, List.set_cons_zero, List.set_cons_succ]
    refine wpAnyK_take (i := 2) (v := ?_) rfl (by kernel_rfl) (fun _ _ _ h => h) (Or.inl ⟨by rfl, ?_⟩) (by assumption) ?_
    rotate_left
    · (intro w hSw; (try dsimp only at hSw); go_simp; try with_reducible rfl)
    try simp only [Act.put, List.getElem_toArray, List.getElem_cons_zero, List.getElem_cons_succ, List.setIfInBounds_toArray, List.set_cons_zero, List.set_cons_succ]
    refine wpAnyK_take (i := 3) (v := ?_) rfl (by kernel_rfl) (fun _ _ _ h => h) (Or.inl ⟨by rfl, ?_⟩) (by assumption) ?_
    rotate_left
    · (intro w hSw; (try dsimp only at hSw); go_simp; try with_reducible rfl)
    try simp only [Act.put, List.getElem_toArray, List.getElem_cons_zero, List.getElem_cons_succ, List.setIfInBounds_toArray, List.set_cons_zero, List.set_cons_succ]
    refine wpAnyK_take (i := 5) (v := ?_) rfl (by kernel_rfl) (fun _ _ _ h => h) (Or.inl ⟨by rfl, ?_⟩) (by assumption) ?_
    rotate_left
    · (intro w hSw; (try dsimp only at hSw); go_simp; try with_reducible rfl)
    try simp only [Act.put, List.getElem_toArray, List.getElem_cons_zero, List.getElem_cons_succ, List.setIfInBounds_toArray, List.set_cons_zero, List.set_cons_succ]
    refine wpAnyK_take (i := 6) (v := ?_) rfl (by kernel_rfl) (fun _ _ _ h => h) (Or.inl ⟨by rfl, ?_⟩) (by assumption) ?_
    rotate_left
    · (intro w hSw; (try dsimp only at hSw); go_simp; try with_reducible rfl)
    try simp only [Act.put, List.getElem_toArray, List.getElem_cons_zero, List.getElem_cons_succ, List.setIfInBounds_toArray, List.set_cons_zero, List.set_cons_succ]
    refine wpAnyK_take (i := 7) (v := ?_) rfl (by kernel_rfl) (fun _ _ _ h => h) (Or.inl ⟨by rfl, ?_⟩) (by assumption) ?_
    rotate_left
    · (intro w hSw; (try dsimp only at hSw); go_simp; try with_reducible rfl)
    try simp only [Act.put, List.getElem_toArray, List.getElem_cons_zero, List.getElem_cons_succ, List.setIfInBounds_toArray, List.set_cons_zero, List.set_cons_succ]
    refine wpAnyK_take (i := 8) (v := ?_) rfl (by kernel_rfl) (fun _ _ _ h => h) (Or.inl ⟨by rfl, ?_⟩) (by assumption) ?_
    rotate_left
    · (intro w hSw; (try dsimp only at hSw); go_simp; try with_reducible rfl)
    try simp only [Act.put, List.getElem_toArray, List.getElem_cons_zero, List.getElem_cons_succ, List.setIfInBounds_toArray, List.set_cons_zero, List.set_cons_succ]
    refine wpAnyK_step (i := 4) rfl (by kernel_rfl) (fun K hK => ?_)
    go_simp
    with_reducible refine (growth_any a1 n1 cap1 z1 p1 i1 HP.out.g L HP.out.l x HX.out _ T0.out.r1).mono ?_
    rintro e u3 ⟨rfl, hb⟩
    have T1 := Lib.hid (T0.out.call hb)
    clear hb
    refine hK.out _ _ (gds_of T1.out) (fun hHeld1 => ?_)
    clear hK K hHeld0
    try simp only [Act.put, List.getElem_toArray, List.getElem_cons_zero, List.getElem_cons_succ, List.setIfInBounds_toArray, List.set_cons_zero, List.set_cons_succ]
    refine wpAnyK_step (i := 9) rfl (by kernel_rfl) (fun K hK => ?_)
    go_simp
    with_reducible refine (growth_any a2 n2 cap2 z2 p2 i2 HP.out.k L HP.out.l y HY.out _ T1.out.r2).mono ?_
    rintro e u4 ⟨rfl, hb⟩
    have T2 := Lib.hid (T1.out.call hb)
    clear hb
    refine hK.out _ _ (gds_of T2.out) (fun hHeld2 => ?_)
    clear hK K hHeld1
    try simp only [Act.put, List.getElem_toArray, List.getElem_cons_zero, List.getElem_cons_succ, List.setIfInBounds_toArray, List.set_cons_zero, List.set_cons_succ]
    refine wpAnyK_done (by kernel_rfl) ?_
    simp only [List.drop_succ_cons, List.drop_zero]
    clear hHeld2
    have T3 := Lib.hid (T2.out.call ((Below.refl _ _).drew))
    clear hl t3
    go_upto_region 3 with fail
    go_cut [5] (fun s5 wx => s5 = .int .i64 N ∧ Hid (GD w a1 n1 cap1 p1 i1 z1 a2 n2 cap2 p2 i2 z2 L wx))
    case first =>
      rcases hcase with ⟨hl2, hm⟩ | ⟨hl2, hm⟩
      · have t1i : (s1 : Int) < (s2 : Int) := by omega
        have t3 : decide ((s1 : Int) < (s2 : Int)) = true := decide_eq_true t1i
        have t2 : ¬ (s2 : Int) < (s1 : Int) := by omega
        have hmi : (s2 : Int) + (L : Int) = (N : Int) := by omega
        have hmw : IntKind.i64.wrap (N : Int) = (N : Int) := IntWalk.i64_in _ ⟨by omega, by omega⟩
        clear hl2 hm
        refine wp_region_keeps (fun u => GDS w a1 n1 cap1 p1 i1 z1 a2 n2 cap2 p2 i2 z2 L u) 10 1 (by kernel_rfl) (by kernel_rfl) (gds_of T3.out) (fun hHeld0 => ?_)
        refine wpAnyK_take (i := 0) (v := ?_) rfl (by kernel_rfl) (fun _ _ _ h => h) (Or.inl ⟨by rfl, ?_⟩) (by assumption) ?_
        rotate_left
        · (intro w hSw; (try dsimp only at hSw); go_simp; try with_reducible rfl)
        try simp only [Act.put, List.getElem_toArray, List.getElem_cons_zero, List.getElem_cons_succ, List.setIfInBounds_toArray, List.set_cons_zero, List.set_cons_succ]
        refine wpAnyK_take (i := 1) (v := ?_) rfl (by kernel_rfl) (fun _ _ _ h => h) (Or.inl ⟨by rfl, ?_⟩) (by assumption) ?_
        rotate_left
        · (intro w hSw; (try dsimp only at hSw); go_simp; try with_reducible rfl)
        try simp only [Act.put, List.getElem_toArray, List.getElem_cons_zero, List.getElem_cons_succ, List.setIfInBounds_toArray, List.set_cons_zero, List.set_cons_succ]
        refine wpAnyK_take (i := 3) (v := ?_) rfl (by kernel_rfl) (fun _ _ _ h => h) (Or.inl ⟨by rfl, ?_⟩) (by assumption) ?_
        rotate_left
        · (intro w hSw; (try dsimp only at hSw); go_simp; try with_reducible rfl)
        try simp only [Act.put, List.getElem_toArray, List.getElem_cons_zero, List.getElem_cons_succ, List.setIfInBounds_toArray, List.set_cons_zero, List.set_cons_succ]
        refine wpAnyK_take (i := 4) (v := ?_) rfl (by kernel_rfl) (fun _ _ _ h => h) (Or.inl ⟨by rfl, ?_⟩) (by assumption) ?_
        rotate_left
        · (intro w hSw; (try dsimp only at hSw); go_simp; try with_reducible rfl)
        try simp only [Act.put, List.getElem_toArray, List.getElem_cons_zero, List.getElem_cons_succ, List.setIfInBounds_toArray, List.set_cons_zero, List.set_cons_succ]
        refine wpAnyK_take (i := 7) (v := ?_) rfl (by kernel_rfl) (fun _ _ _ h => h) (Or.inl ⟨by rfl, ?_⟩) (by assumption) ?_
        rotate_left
        · (intro w hSw; (try dsimp only at hSw); go_simp; try with_reducible rfl)
        try simp only [Act.put, List.getElem_toArray, List.getElem_cons_zero, List.getElem_cons_succ, List.setIfInBounds_toArray, List.set_cons_zero, List.set_cons_succ]
        refine wpAnyK_take (i := 8) (v := ?_) rfl (by kernel_rfl) (fun _ _ _ h => h) (Or.inl ⟨by rfl, ?_⟩) (by assumption) ?_
        rotate_left
        · (intro w hSw; (try dsimp only at hSw); go_simp; try with_reducible rfl)
        try simp only [Act.put, List.getElem_toArray, List.getElem_cons_zero, List.getElem_cons_succ, List.setIfInBounds_toArray, List.set_cons_zero, List.set_cons_succ]
        refine wpAnyK_step (i := 2) rfl (by kernel_rfl) (fun K hK => ?_)
        go_simp
        with_reducible refine (start_i a1 n1 cap1 z1 p1 i1 HP.out.g HP.out.ng s1 S1.out _ T3.out.r1).mono ?_
        rintro e u5 ⟨rfl, hb⟩
        have T4 := Lib.hid (T3.out.call hb)
        clear hb
        refine hK.out _ _ (gds_of T4.out) (fun hHeld1 => ?_)
        clear hK K hHeld0
        try simp only [Act.put, List.getElem_toArray, List.getElem_cons_zero, List.getElem_cons_succ, List.setIfInBounds_toArray, List.set_cons_zero, List.set_cons_succ]
        refine wpAnyK_step (i := 5) rfl (by kernel_rfl) (fun K hK => ?_)
        go_simp
        with_reducible refine (start_i a2 n2 cap2 z2 p2 i2 HP.out.k HP.out.nk s2 S2.out _ T4.out.r2).mono ?_
        rintro e u6 ⟨rfl, hb⟩
        have T5 := Lib.hid (T4.out.call hb)
        clear hb
        refine hK.out _ _ (gds_of T5.out) (fun hHeld2 => ?_)
        clear hK K hHeld1
        try simp only [Act.put, List.getElem_toArray, List.getElem_cons_zero, List.getElem_cons_succ, List.setIfInBounds_toArray, List.set_cons_zero, List.set_cons_succ]
        refine wpAnyK_take (i := 6) (v := ?_) rfl (by kernel_rfl) (fun _ _ _ h => h) (Or.inl ⟨by rfl, ?_⟩) (by assumption) ?_
        rotate_left
        · (intro w hSw; (try dsimp only at hSw); go_simp; try with_reducible rfl)
        try simp only [Act.put, List.getElem_toArray, List.getElem_cons_zero, List.getElem_cons_succ, List.setIfInBounds_toArray, List.set_cons_zero, List.set_cons_succ]
        refine wpAnyK_take (i := 9) (v := ?_) rfl (by kernel_rfl) (fun _ _ _ h => h) (Or.inl ⟨by rfl, ?_⟩) (by assumption) ?_
        rotate_left
        · (intro w hSw; (try dsimp only at hSw); go_simp; try with_reducible rfl)
        try simp only [Act.put, List.getElem_toArray, List.getElem_cons_zero, List.getElem_cons_succ, List.setIfInBounds_toArray, List.set_cons_zero, List.set_cons_succ]
        refine wpAnyK_done (by kernel_rfl) ?_
        simp only [List.drop_succ_cons, List.drop_zero]
        clear hHeld2
        go_wp2_with fail
        go_meet
        exact ⟨rfl, T5⟩
      · have t1i : ¬ (s1 : Int) < (s2 : Int) := by omega
        have t3 : decide ((s1 : Int) < (s2 : Int)) = false := decide_eq_false t1i

        have hmi : (s1 : Int) + (L : Int) = (N : Int) := by omega
        have hmw : IntKind.i64.wrap (N : Int) = (N : Int) := IntWalk.i64_in _ ⟨by omega, by omega⟩
        clear hl2 hm
        refine wp_region_keeps (fun u => GDS w a1 n1 cap1 p1 i1 z1 a2 n2 cap2 p2 i2 z2 L u) 10 1 (by kernel_rfl) (by kernel_rfl) (gds_of T3.out) (fun hHeld0 => ?_)
        refine wpAnyK_take (i := 0) (v := ?_) rfl (by kernel_rfl) (fun _ _ _ h => h) (Or.inl ⟨by rfl, ?_⟩) (by assumption) ?_
        rotate_left
        · (intro w hSw; (try dsimp only at hSw); go_simp; try with_reducible rfl)
        try simp only [Act.put, List.getElem_toArray, List.getElem_cons_zero, List.getElem_cons_succ, List.setIfInBounds_toArray, List.set_cons_zero, List.set_cons_succ]
        refine wpAnyK_take (i := 1) (v := ?_) rfl (by kernel_rfl) (fun _ _ _ h => h) (Or.inl ⟨by rfl, ?_⟩) (by assumption) ?_
        rotate_left
        · (intro w hSw; (try dsimp only at hSw); go_simp; try with_reducible rfl)
        try simp only [Act.put, List.getElem_toArray, List.getElem_cons_zero, List.getElem_cons_succ, List.setIfInBounds_toArray, List.set_cons_zero, List.set_cons_succ]
        refine wpAnyK_take (i := 3) (v := ?_) rfl (by kernel_rfl) (fun _ _ _ h => h) (Or.inl ⟨by rfl, ?_⟩) (by assumption) ?_
        rotate_left
        · (intro w hSw; (try dsimp only at hSw); go_simp; try with_reducible rfl)
        try simp only [Act.put, List.getElem_toArray, List.getElem_cons_zero, List.getElem_cons_succ, List.setIfInBounds_toArray, List.set_cons_zero, List.set_cons_succ]
        refine wpAnyK_take (i := 4) (v := ?_) rfl (by kernel_rfl) (fun _ _ _ h => h) (Or.inl ⟨by rfl, ?_⟩) (by assumption) ?_
        rotate_left
        · (intro w hSw; (try dsimp only at hSw); go_simp; try with_reducible rfl)
        try simp only [Act.put, List.getElem_toArray, List.getElem_cons_zero, List.getElem_cons_succ, List.setIfInBounds_toArray, List.set_cons_zero, List.set_cons_succ]
        refine wpAnyK_take (i := 7) (v := ?_) rfl (by kernel_rfl) (fun _ _ _ h => h) (Or.inl ⟨by rfl, ?_⟩) (by assumption) ?_
        rotate_left
        · (intro w hSw; (try dsimp only at hSw); go_simp; try with_reducible rfl)
        try simp only [Act.put, List.getElem_toArray, List.getElem_cons_zero, List.getElem_cons_succ, List.setIfInBounds_toArray, List.set_cons_zero, List.set_cons_succ]
        refine wpAnyK_take (i := 8) (v := ?_) rfl (by kernel_rfl) (fun _ _ _ h => h) (Or.inl ⟨by rfl, ?_⟩) (by assumption) ?_
        rotate_left
        · (intro w hSw; (try dsimp only at hSw); go_simp; try with_reducible rfl)
        try simp only [Act.put, List.getElem_toArray, List.getElem_cons_zero, List.getElem_cons_succ, List.setIfInBounds_toArray, List.set_cons_zero, List.set_cons_succ]
        refine wpAnyK_step (i := 2) rfl (by kernel_rfl) (fun K hK => ?_)
        go_simp
        with_reducible refine (start_i a1 n1 cap1 z1 p1 i1 HP.out.g HP.out.ng s1 S1.out _ T3.out.r1).mono ?_
        rintro e u5 ⟨rfl, hb⟩
        have T4 := Lib.hid (T3.out.call hb)
        clear hb
        refine hK.out _ _ (gds_of T4.out) (fun hHeld1 => ?_)
        clear hK K hHeld0
        try simp only [Act.put, List.getElem_toArray, List.getElem_cons_zero, List.getElem_cons_succ, List.setIfInBounds_toArray, List.set_cons_zero, List.set_cons_succ]
        refine wpAnyK_step (i := 5) rfl (by kernel_rfl) (fun K hK => ?_)
        go_simp
        with_reducible refine (start_i a2 n2 cap2 z2 p2 i2 HP.out.k HP.out.nk s2 S2.out _ T4.out.r2).mono ?_
        rintro e u6 ⟨rfl, hb⟩
        have T5 := Lib.hid (T4.out.call hb)
        clear hb
        refine hK.out _ _ (gds_of T5.out) (fun hHeld2 => ?_)
        clear hK K hHeld1
        try simp only [Act.put, List.getElem_toArray, List.getElem_cons_zero, List.getElem_cons_succ, List.setIfInBounds_toArray, List.set_cons_zero, List.set_cons_succ]
        refine wpAnyK_take (i := 6) (v := ?_) rfl (by kernel_rfl) (fun _ _ _ h => h) (Or.inl ⟨by rfl, ?_⟩) (by assumption) ?_
        rotate_left
        · (intro w hSw; (try dsimp only at hSw); go_simp; try with_reducible rfl)
        try simp only [Act.put, List.getElem_toArray, List.getElem_cons_zero, List.getElem_cons_succ, List.setIfInBounds_toArray, List.set_cons_zero, List.set_cons_succ]
        refine wpAnyK_take (i := 9) (v := ?_) rfl (by kernel_rfl) (fun _ _ _ h => h) (Or.inl ⟨by rfl, ?_⟩) (by assumption) ?_
        rotate_left
        · (intro w hSw; (try dsimp only at hSw); go_simp; try with_reducible rfl)
        try simp only [Act.put, List.getElem_toArray, List.getElem_cons_zero, List.getElem_cons_succ, List.setIfInBounds_toArray, List.set_cons_zero, List.set_cons_succ]
        refine wpAnyK_done (by kernel_rfl) ?_
        simp only [List.drop_succ_cons, List.drop_zero]
        clear hHeld2
        go_wp2_with fail
        go_meet
        exact ⟨rfl, T5⟩
    case rest =>
      obtain ⟨rfl, T6⟩ := hcut
      obtain ⟨w6, rfl⟩ : ∃ u : World, u = wc := ⟨_, rfl⟩
      obtain ⟨w7, hw⟩ : ∃ u, w6.alloc (.cells #[.bool false, .int .i64 0, .int .i64 0] 74) = u := ⟨_, rfl⟩
      have hz : Below w6.heap.size w6 w7 := by rw [← hw]; exact (Below.refl _ _).alloc (Nat.le_refl _) _
      have L0 := Lib.hid (show GL w fid caps N D w6.heap.size 0 0 0 w7 from ⟨by rw [← hw]; exact Cur3.new w6 _ _ _ _, T6.out.res.below hz, by have := T6.out.res.lt; omega, most_zero D, T6.out.below.trans (hz.mono T6.out.below.size)⟩)
      have HW7 := Lib.hid hw
      have hNi : N ≤ 520 := by omega
      clear hw hz hcase
      go_upto_region 5 with fail
      try rw [HW7.out]
      obtain ⟨db, hdb⟩ : ∃ db, w6.heap.size = db := ⟨_, rfl⟩
      rw [hdb] at L0
      try rw [hdb]
      have HDB := Lib.hid hdb
      clear hdb
      have eg := EG.out
      go_wp2_with fail
      go_loopw [33] (fun s33 wx => ∃ t : Nat, s33 = .int .i64 t ∧ t ≤ N ∧ Hid (∃ m k, GL w fid caps N D db m k t wx)) (fun s33 _ => N - (intOf s33).toNat)
      case atStart => exact ⟨0, by go_num, Nat.zero_le _, 0, 0, L0.out⟩
      case round =>
        obtain ⟨t, rfl, ht, HS⟩ := hrel
        obtain ⟨wk, rfl⟩ : ∃ u : World, u = wr := ⟨_, rfl⟩
        obtain ⟨m, k, hs⟩ := HS.out
        have HS := Lib.hid hs
        clear hs
        by_cases hlt : t < N
        · have hlti : (t : Int) < (N : Int) := by omega
          obtain ⟨v, hv⟩ : ∃ v, D t = v := ⟨_, rfl⟩
          have hvb := HD.out t hlt
          rw [hv] at hvb
          obtain ⟨hv1, hv2⟩ := hvb
          have HV := Lib.hid hv
          clear hv
          go_wp2_with fail
          refine (HCL.out _ HS.out.below t hlt).mono ?_
          rintro e u3 ⟨rfl, hb⟩
          have HS1 := Lib.hid (HS.out.call hb)
          clear hb
          rw [HV.out]
          by_cases hi : v = 4611686018427387904
          · have t1 : (v == 4611686018427387904) = true := by simpa using hi
            obtain ⟨r0, r1', r2', g0, g1, g2⟩ := HS1.out.res
            have HB := Lib.hid (show Below w.heap.size w (((u3.setCell ⟨w.heap.size + 1, 0, none⟩ (.bool true)).setCell ⟨w.heap.size + 1, 1, none⟩ (.int .i64 0)).setCell ⟨w.heap.size + 1, 2, none⟩ (.int .i64 0)) from below_set3 HS1.out.below (Nat.le_succ _) _ _ _)
            have HI := Lib.hid hi
            clear hi
            go_wp2_with fail
            exact bodyPost_ret (v := .agg #[.bool true, .int .i64 0, .int .i64 0]) (by simp [results, Try.results122, go_sem, r0, r1', r2']) rfl ⟨true, 0, 0, rfl, HB.out, .inl ⟨rfl, rfl, rfl, .inr ⟨t, hlt, HV.out.trans HI.out⟩⟩⟩
          · have t1 : (v == 4611686018427387904) = false := by simpa using hi
            have HI := Lib.hid (show ¬ D t = infV by rw [HV.out]; exact hi)
            clear hi
            obtain ⟨c0, c1, c2, f0, f1, f2⟩ := HS1.out.box
            by_cases hg : m < v
            · have t2 : decide (m < v) = true := decide_eq_true hg
              have HN := Lib.hid (show GL w fid caps N D db v t (t + 1) (((u3.setCell ⟨db, 0, none⟩ (.bool false)).setCell ⟨db, 1, none⟩ (.int .i64 v)).setCell ⟨db, 2, none⟩ (.int .i64 t)) from by
                have h1 := HS1.out.d
                refine ⟨HS1.out.box.set _ _ _, ((HS1.out.res.other (by omega) _ _).other (by omega) _ _).other (by omega) _ _, h1, ?_, below_set3 HS1.out.below (by omega) _ _ _⟩
                have := HS1.out.most.more HI.out (by rw [HV.out]; exact hg)
                rwa [HV.out] at this)
              go_wp2_with fail
              go_roundw
              case rel => exact ⟨t + 1, by go_num, by omega, v, t, HN.out⟩
              case measure => simp [intOf]; omega
            · have t2 : decide (m < v) = false := decide_eq_false hg
              have HN := Lib.hid (show GL w fid caps N D db m k (t + 1) u3 from ⟨HS1.out.box, HS1.out.res, HS1.out.d, HS1.out.most.same HI.out (by rw [HV.out]; exact hg), HS1.out.below⟩)
              go_wp2_with fail
              go_roundw
              case rel => exact ⟨t + 1, by go_num, by omega, m, k, HN.out⟩
              case measure => simp [intOf]; omega
        · obtain rfl : t = N := by omega
          have hlti : ¬ (t : Int) < (t : Int) := by omega
          obtain ⟨c0, c1, c2, f0, f1, f2⟩ := HS.out.box
          obtain ⟨r0, r1', r2', g0, g1, g2⟩ := HS.out.res
          have hne : ¬ db = w.heap.size + 1 := by have := HS.out.d; omega
          have hne2 : ¬ w.heap.size + 1 = db := by have := HS.out.d; omega
          have HB := Lib.hid (show Below w.heap.size w (((wk.setCell ⟨w.heap.size + 1, 0, none⟩ (.bool false)).setCell ⟨w.heap.size + 1, 1, none⟩ (.int .i64 m)).setCell ⟨w.heap.size + 1, 2, none⟩ (.int .i64 k)) from below_set3 HS.out.below (Nat.le_succ _) _ _ _)
          go_wp2_with fail
          exact bodyPost_ret (v := .agg #[.bool false, .int .i64 m, .int .i64 k]) (by simp [results, Try.results122, go_sem, r0, r1', r2']) rfl ⟨false, m, k, rfl, HB.out, .inr ⟨rfl, (by have := NF.out; omega), HS.out.most⟩⟩
end Go.Proofs.Ytjjaaknjdmijbaa
