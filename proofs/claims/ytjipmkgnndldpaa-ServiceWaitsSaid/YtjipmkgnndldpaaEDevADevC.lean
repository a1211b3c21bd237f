/- The search of package deviation: the greatest of the distances that a closure gives. By the verifier's side. -/
import Derived.Test.YtjipmkgnndldpaaEDevM
import Derived.Test.YtjipmkgnndldpaaEPwE
import Derived.Test.YtjipmkgnndldpaaERowF
import Derived.Test.YtjipmkgnndldpaaERefARefP
import Derived.BigQuiet
namespace Go.Proofs.Ytjipmkgnndldpaa
open Go.RowKit
set_option linter.unusedSimpArgs false
set_option linter.unusedVariables false

/-- Block b holds two curves and a number, and may be written. -/
structure P7 (w : World) (b : Nat) (x0 x1 x2 y0 y1 y2 n0 : Value) : Prop where
  lo : Cur3 w b x0 x1 x2
  c3 : w.cell? ⟨b, 3, none⟩ = some y0
  c4 : w.cell? ⟨b, 4, none⟩ = some y1
  c5 : w.cell? ⟨b, 5, none⟩ = some y2
  c6 : w.cell? ⟨b, 6, none⟩ = some n0
  f3 : w.frozen? ⟨b, 3, none⟩ = false
  f4 : w.frozen? ⟨b, 4, none⟩ = false
  f5 : w.frozen? ⟨b, 5, none⟩ = false
  f6 : w.frozen? ⟨b, 6, none⟩ = false
section
variable {w w' : World} {b : Nat} {x0 x1 x2 y0 y1 y2 n0 : Value}
theorem P7.lt (h : P7 w b x0 x1 x2 y0 y1 y2 n0) : b < w.heap.size := h.lo.lt
theorem P7.below (h : P7 w b x0 x1 x2 y0 y1 y2 n0) (hb : Below w.heap.size w w') : P7 w' b x0 x1 x2 y0 y1 y2 n0 :=
  ⟨h.lo.below hb, (hb.cell (p := ⟨b, 3, none⟩) h.lt).trans h.c3, (hb.cell (p := ⟨b, 4, none⟩) h.lt).trans h.c4, (hb.cell (p := ⟨b, 5, none⟩) h.lt).trans h.c5, (hb.cell (p := ⟨b, 6, none⟩) h.lt).trans h.c6,
    (hb.frozen (p := ⟨b, 3, none⟩) h.lt).trans h.f3, (hb.frozen (p := ⟨b, 4, none⟩) h.lt).trans h.f4, (hb.frozen (p := ⟨b, 5, none⟩) h.lt).trans h.f5, (hb.frozen (p := ⟨b, 6, none⟩) h.lt).trans h.f6⟩
theorem P7.other (h : P7 w b x0 x1 x2 y0 y1 y2 n0) {q : Nat} (hq : ¬ b = q) (i : Nat) (v : Value) : P7 (w.setCell ⟨q, i, none⟩ v) b x0 x1 x2 y0 y1 y2 n0 := by
  have hb : (w.setCell ⟨q, i, none⟩ v).heap[b]? = w.heap[b]? := Below.heap_setCell _ _ _ _ hq
  exact ⟨h.lo.other hq i v, (World.cell?_of_block (w := w) (a := ⟨b, 3, none⟩) hb).trans h.c3, (World.cell?_of_block (w := w) (a := ⟨b, 4, none⟩) hb).trans h.c4, (World.cell?_of_block (w := w) (a := ⟨b, 5, none⟩) hb).trans h.c5, (World.cell?_of_block (w := w) (a := ⟨b, 6, none⟩) hb).trans h.c6,
    (World.frozen?_of_block (w := w) (a := ⟨b, 3, none⟩) hb).trans h.f3, (World.frozen?_of_block (w := w) (a := ⟨b, 4, none⟩) hb).trans h.f4, (World.frozen?_of_block (w := w) (a := ⟨b, 5, none⟩) hb).trans h.f5, (World.frozen?_of_block (w := w) (a := ⟨b, 6, none⟩) hb).trans h.f6⟩
theorem p7_new (w : World) (x0 x1 x2 y0 y1 y2 n0 : Value) (t : TypeId) : P7 (w.alloc (.cells #[x0, x1, x2, y0, y1, y2, n0] t)) w.heap.size x0 x1 x2 y0 y1 y2 n0 :=
  ⟨⟨by go_simp, by go_simp, by go_simp, by go_simp, by go_simp, by go_simp⟩, by go_simp, by go_simp, by go_simp, by go_simp, by go_simp, by go_simp, by go_simp, by go_simp⟩
end

/-- While the greatest distance is searched: the pair's box, the result's behind it. -/
structure GD (w : World) (a1 : Option Addr) (n1 cap1 p1 : Nat) (i1 : Int) (z1 : List Int) (a2 : Option Addr) (n2 cap2 p2 : Nat) (i2 : Int) (z2 : List Int) (L : Nat) (u : World) : Prop where
  pr : P7 u w.heap.size (.slice a1 n1 cap1) (.int .i64 p1) (.int .i64 i1) (.slice a2 n2 cap2) (.int .i64 p2) (.int .i64 i2) (.int .i64 L)
  res : Cur3 u (w.heap.size + 1) (.bool false) (.int .i64 0) (.int .i64 0)
  r1 : RowZ u a1 n1 cap1 z1
  r2 : RowZ u a2 n2 cap2 z2
  below : Below w.heap.size w u
abbrev GDS (w : World) (a1 : Option Addr) (n1 cap1 p1 : Nat) (i1 : Int) (z1 : List Int) (a2 : Option Addr) (n2 cap2 p2 : Nat) (i2 : Int) (z2 : List Int) (L : Nat) (u : World) : Prop :=
  u.cell? ⟨w.heap.size, 0, none⟩ = some (.slice a1 n1 cap1) ∧ u.cell? ⟨w.heap.size, 1, none⟩ = some (.int .i64 p1) ∧ u.cell? ⟨w.heap.size, 2, none⟩ = some (.int .i64 i1) ∧ u.cell? ⟨w.heap.size, 3, none⟩ = some (.slice a2 n2 cap2) ∧ u.cell? ⟨w.heap.size, 4, none⟩ = some (.int .i64 p2) ∧ u.cell? ⟨w.heap.size, 5, none⟩ = some (.int .i64 i2) ∧ u.cell? ⟨w.heap.size, 6, none⟩ = some (.int .i64 L) ∧ Hid (GD w a1 n1 cap1 p1 i1 z1 a2 n2 cap2 p2 i2 z2 L u)
section
variable {w u v : World} {a1 : Option Addr} {n1 cap1 p1 : Nat} {i1 : Int} {z1 : List Int} {a2 : Option Addr} {n2 cap2 p2 : Nat} {i2 : Int} {z2 : List Int} {L : Nat}
theorem GD.call (h : GD w a1 n1 cap1 p1 i1 z1 a2 n2 cap2 p2 i2 z2 L u) (hb : Below u.heap.size u v) : GD w a1 n1 cap1 p1 i1 z1 a2 n2 cap2 p2 i2 z2 L v :=
  ⟨h.pr.below hb, h.res.below hb, h.r1.under hb, h.r2.under hb, h.below.trans (hb.mono h.below.size)⟩
theorem gds_of (h : GD w a1 n1 cap1 p1 i1 z1 a2 n2 cap2 p2 i2 z2 L u) : GDS w a1 n1 cap1 p1 i1 z1 a2 n2 cap2 p2 i2 z2 L u := ⟨h.pr.lo.c0, h.pr.lo.c1, h.pr.lo.c2, h.pr.c3, h.pr.c4, h.pr.c5, h.pr.c6, h⟩
theorem gd_start (h1 : RowZ w a1 n1 cap1 z1) (h2 : RowZ w a2 n2 cap2 z2) {W : World} (hW : (w.alloc (.cells #[.slice a1 n1 cap1, .int .i64 p1, .int .i64 i1, .slice a2 n2 cap2, .int .i64 p2, .int .i64 i2, .int .i64 L] 131)).alloc (.cells #[.bool false, .int .i64 0, .int .i64 0] 57) = W) : GD w a1 n1 cap1 p1 i1 z1 a2 n2 cap2 p2 i2 z2 L W ∧ W.heap.size = w.heap.size + 2 := by
  subst hW
  have hA : Below w.heap.size w (w.alloc (.cells #[.slice a1 n1 cap1, .int .i64 p1, .int .i64 i1, .slice a2 n2 cap2, .int .i64 p2, .int .i64 i2, .int .i64 L] 131)) := (Below.refl _ _).alloc (Nat.le_refl _) _
  have hB : Below (w.alloc (.cells #[.slice a1 n1 cap1, .int .i64 p1, .int .i64 i1, .slice a2 n2 cap2, .int .i64 p2, .int .i64 i2, .int .i64 L] 131)).heap.size (w.alloc (.cells #[.slice a1 n1 cap1, .int .i64 p1, .int .i64 i1, .slice a2 n2 cap2, .int .i64 p2, .int .i64 i2, .int .i64 L] 131)) ((w.alloc (.cells #[.slice a1 n1 cap1, .int .i64 p1, .int .i64 i1, .slice a2 n2 cap2, .int .i64 p2, .int .i64 i2, .int .i64 L] 131)).alloc (.cells #[.bool false, .int .i64 0, .int .i64 0] 57)) := (Below.refl _ _).alloc (Nat.le_refl _) _
  have hC : Below w.heap.size w ((w.alloc (.cells #[.slice a1 n1 cap1, .int .i64 p1, .int .i64 i1, .slice a2 n2 cap2, .int .i64 p2, .int .i64 i2, .int .i64 L] 131)).alloc (.cells #[.bool false, .int .i64 0, .int .i64 0] 57)) := hA.trans (hB.mono hA.size)
  refine ⟨⟨(p7_new w (.slice a1 n1 cap1) (.int .i64 p1) (.int .i64 i1) (.slice a2 n2 cap2) (.int .i64 p2) (.int .i64 i2) (.int .i64 L) 131).below hB, Cur3.new2 w _ _ _ _ _, h1.under hC, h2.under hC, hC⟩, by simp⟩
end

/-- What the two curves of a pair are to each other: in normal form, with a common period. -/
structure PairP (z1 : List Int) (p1 : Nat) (i1 : Int) (z2 : List Int) (p2 : Nat) (i2 : Int) (L : Nat) : Prop where
  g : Good z1 p1 i1
  k : Good z2 p2 i2
  ng : NormC z1 p1 i1 z1 p1 i1
  nk : NormC z2 p2 i2 z2 p2 i2
  m : Mult p1 p2 L
  l : L ≤ 120
/-- A closure gives the distances D at the ticks below N. -/
def ClosD (fid : FuncId) (caps : Array Value) (N : Nat) (D : Nat → Int) (w : World) : Prop :=
  ∀ u, Below w.heap.size w u → ∀ t, t < N → Calls Try.prog fid (#[.int .i64 (t : Int)] ++ caps) u fun e u' => e = .returned (.int .i64 (D t)) ∧ Below u.heap.size u u'
/-- A deviation is handed back: infinite, its value, its tick. -/
def GivesDev1 (P : Bool → Int → Nat → Prop) (w : World) (e : Ending) (w' : World) : Prop :=
  ∃ i m k, e = .returned (.agg #[.bool i, .int .i64 m, .int .i64 (k : Nat)]) ∧ Below w.heap.size w w' ∧ P i m k

/-- Within the loop: the search so far, in the block d. -/
structure GL (w : World) (fid : FuncId) (caps : Array Value) (N : Nat) (D : Nat → Int) (db : Nat) (m : Int) (k t : Nat) (u : World) : Prop where
  box : Cur3 u db (.bool false) (.int .i64 m) (.int .i64 k)
  res : Cur3 u (w.heap.size + 1) (.bool false) (.int .i64 0) (.int .i64 0)
  d : w.heap.size + 1 < db
  most : Most D t m k
  below : Below w.heap.size w u
theorem GL.call {w : World} {fid : FuncId} {caps : Array Value} {N : Nat} {D : Nat → Int} {db : Nat} {m : Int} {k t : Nat} {u v : World} (h : GL w fid caps N D db m k t u) (hb : Below u.heap.size u v) : GL w fid caps N D db m k t v :=
  ⟨h.box.below hb, h.res.below hb, h.d, h.most, h.below.trans (hb.mono h.below.size)⟩

set_option maxRecDepth 100000 in
set_option maxHeartbeats 6400000 in
theorem greatest_any (a1 : Option Addr) (n1 cap1 : Nat) (z1 : List Int) (p1 : Nat) (i1 : Int) (a2 : Option Addr) (n2 cap2 : Nat) (z2 : List Int) (p2 : Nat) (i2 : Int) (L : Nat) (hp : PairP z1 p1 i1 z2 p2 i2 L) (fid : FuncId) (caps : Array Value) (D : Nat → Int) (N : Nat) (hN : max (z1.length - p1) (z2.length - p2) + L = N)
    (hD : ∀ t, t < N → -9223372036854775808 ≤ D t ∧ D t ≤ 4611686018427387904) (w : World) (h1 : RowZ w a1 n1 cap1 z1) (h2 : RowZ w a2 n2 cap2 z2)
    (eg : ∀ (args : Array Value) (w : World), (callFunc fid args).run Try.prog w = .ok (.enter fid args) w) (hcl : ClosD fid caps N D w) :
    Calls Try.prog 118 #[(.agg #[.slice a1 n1 cap1, .int .i64 p1, .int .i64 i1, .slice a2 n2 cap2, .int .i64 p2, .int .i64 i2, .int .i64 L]), .func (.func fid) #[] caps] w (GivesDev1 (GreatP (growI z2 p2 i2 L < growI z1 p1 i1 L) D N) w) := by
  obtain ⟨W, hW⟩ : ∃ W, (w.alloc (.cells #[.slice a1 n1 cap1, .int .i64 p1, .int .i64 i1, .slice a2 n2 cap2, .int .i64 p2, .int .i64 i2, .int .i64 L] 131)).alloc (.cells #[.bool false, .int .i64 0, .int .i64 0] 57) = W := ⟨_, rfl⟩
  obtain ⟨t0, hsz⟩ := gd_start (L := L) (p1 := p1) (i1 := i1) (p2 := p2) (i2 := i2) h1 h2 hW
  have T0 := Lib.hid (t0.call ((Below.refl _ _).drew))
  have HSZ := Lib.hid hsz
  have HW := Lib.hid hW
  have HP := Lib.hid hp
  have HD := Lib.hid hD
  have HCL := Lib.hid hcl
  have EG := Lib.hid eg
  obtain ⟨x, hx⟩ : ∃ x, growI z1 p1 i1 L = x := ⟨_, rfl⟩
  obtain ⟨y, hy⟩ : ∃ y, growI z2 p2 i2 L = y := ⟨_, rfl⟩
  have HX := Lib.hid hx
  have HY := Lib.hid hy
  obtain ⟨s1, hs1⟩ : ∃ s, z1.length - p1 = s := ⟨_, rfl⟩
  obtain ⟨s2, hs2⟩ : ∃ s, z2.length - p2 = s := ⟨_, rfl⟩
  rw [hs1, hs2] at hN
  have S1 := Lib.hid (show z1.length = s1 + p1 by have := hp.g.p3; omega)
  have S2 := Lib.hid (show z2.length = s2 + p2 by have := hp.k.p3; omega)
  have bs1 : s1 ≤ 400 := by have := hp.g.few; omega
  have bs2 : s2 ≤ 400 := by have := hp.k.few; omega
  have bl : L ≤ 120 := hp.l
  have HNL := Lib.hid (show 1 ≤ N by have := hp.m.one; omega)
  rw [hx, hy]
  have hcase : (s1 < s2 ∧ s2 + L = N) ∨ (¬ s1 < s2 ∧ s1 + L = N) := by omega
  clear t0 hsz hW hp hD hcl eg hx hy hs1 hs2 hN h1 h2
  go_enter Try.func118, Try.ntmps118
  go_upto_region 1 with fail
  try rw [HW.out]
  obtain ⟨⟨c0, c1, c2, f0, f1, f2⟩, c3, c4, c5, c6, f3, f4, f5, f6⟩ := T0.out.pr
  by_cases hl : y < x
  · have t3 : decide (y < x) = true := decide_eq_true hl
    clear c0 c1 c2 f0 f1 f2 c3 c4 c5 c6 f3 f4 f5 f6
    refine wp_region_keeps (fun u => GDS w a1 n1 cap1 p1 i1 z1 a2 n2 cap2 p2 i2 z2 L u) 10 1 (by kernel_rfl) (by kernel_rfl) (gds_of T0.out) (fun hHeld0 => ?_)
    refine wpAnyK_take (i := 0) (v := ?_) rfl (by kernel_rfl) (fun _ _ _ h => h) (Or.inl ⟨by rfl, ?_⟩) (by assumption) ?_
    rotate_left
    · (intro w hSw; (try dsimp only at hSw); go_simp; try with_reducible rfl)
    try simp only [Act.put, List.getElem_toArray, List.getElem_cons_zero, List.getElem_cons_succ, List.setIfInBounds_toArray, List.set_cons_zero, List.set_cons_succ]
    refine wpAnyK_take (i := 1) (v := ?_) rfl (by kernel_rfl) (fun _ _ _ h => h) (Or.inl ⟨by rfl, ?_⟩) (by assumption) ?_
    rotate_left
    · (intro w hSw; (try dsimp only at hSw); go_simp; try with_reducible rfl)
    try simp only [Act.put, List.getElem_toArray, List.getElem_cons_zero, List.getElem_cons_succ, List.setIfInBounds_toArray, List.set_cons_zero, List.set_cons_succ]
    refine wpAnyK_take (i := 2) (v := ?_) rfl (by kernel_rfl) (fun _ _ _ h => h) (Or.inl ⟨by rfl, ?_⟩) (by assumption) ?_
    rotate_left
    · (intro w hSw; (try dsimp only at hSw); go_simp; try with_reducible rfl)
    try simp only [Act.put, List.getElem_toArray, List.getElem_cons_zero, List.getElem_cons_succ, List.setIfInBounds_toArray, List.set_cons_zero, List.set_cons_succ]
    refine wpAnyK_take (i := 3) (v := ?_) rfl (by kernel_rfl) (fun _ _ _ h => h) (Or.inl ⟨by rfl, ?_⟩) (by assumption) ?_
    rotate_left
    · (intro w hSw; (try dsimp only at hSw); go_simp; try with_reducible rfl)
    try simp only [Act.put, List.getElem_toArray, List.getElem_cons_zero, List.getElem_cons_succ, List.setIfInBounds_toArray, List.set_cons_zero, List.set_cons_succ]
    refine wpAnyK_take (i := 5) (v := ?_) rfl (by kernel_rfl) (fun _ _ _ h => h) (Or.inl ⟨by rfl, ?_⟩) (by assumption) ?_
    rotate_left
    · (intro w hSw; (try dsimp only at hSw); go_simp; try with_reducible rfl)
    try simp only [Act.put, List.getElem_toArray, List.getElem_cons_zero, List.getElem_cons_succ, List.setIfInBounds_toArray, List.set_cons_zero, List.set_cons_succ]
    refine wpAnyK_take (i := 6) (v := ?_) rfl (by kernel_rfl) (fun _ _ _ h => h) (Or.inl ⟨by rfl, ?_⟩) (by assumption) ?_
    rotate_left
    · (intro w hSw; (try dsimp only at hSw); go_simp; try with_reducible rfl)
    try simp only [Act.put, List.getElem_toArray, List.getElem_cons_zero, List.getElem_cons_succ, List.setIfInBounds_toArray, List.set_cons_zero, List.set_cons_succ]
    refine wpAnyK_take (i := 7) (v := ?_) rfl (by kernel_rfl) (fun _ _ _ h => h) (Or.inl ⟨by rfl, ?_⟩) (by assumption) ?_
    rotate_left
    · (intro w hSw; (try dsimp only at hSw); go_simp; try with_reducible rfl)
    try simp only [Act.put, List.getElem_toArray, List.getElem_cons_zero, List.getElem_cons_succ, List.setIfInBounds_toArray, List.set_cons_zero, List.set_cons_succ]
    refine wpAnyK_take (i := 8) (v := ?_) rfl (by kernel_rfl) (fun _ _ _ h => h) (Or.inl ⟨by rfl, ?_⟩) (by assumption) ?_
    rotate_left
    · (intro w hSw; (try dsimp only at hSw); go_simp; try with_reducible rfl)
    try simp only [Act.put, List.getElem_toArray, List.getElem_cons_zero, List.getElem_cons_succ, List.setIfInBounds_toArray, List.set_cons_zero, List.set_cons_succ]
    refine wpAnyK_step (i := 4) rfl (by kernel_rfl) (fun K hK => ?_)
    go_simp
    with_reducible refine (growth_any a1 n1 cap1 z1 p1 i1 HP.out.g L HP.out.l x HX.out _ T0.out.r1).mono ?_
    rintro e u3 ⟨rfl, hb⟩
    have T1 := Lib.hid (T0.out.call hb)
    clear hb
    refine hK.out _ _ (gds_of T1.out) (fun hHeld1 => ?_)
    clear hK K hHeld0
    try simp only [Act.put, List.getElem_toArray, List.getElem_cons_zero, List.getElem_cons_succ, List.setIfInBounds_toArray, List.set_cons_zero, List.set_cons_succ]
    refine wpAnyK_step (i := 9) rfl (by kernel_rfl) (fun K hK => ?_)
    go_simp
    with_reducible refine (growth_any a2 n2 cap2 z2 p2 i2 HP.out.k L HP.out.l y HY.out _ T1.out.r2).mono ?_
    rintro e u4 ⟨rfl, hb⟩
    have T2 := Lib.hid (T1.out.call hb)
    clear hb
    refine hK.out _ _ (gds_of T2.out) (fun hHeld2 => ?_)
    clear hK K hHeld1
    try simp only [Act.put, List.getElem_toArray, List.getElem_cons_zero, List.getElem_cons_succ, List.setIfInBounds_toArray, List.set_cons_zero, List.set_cons_succ]
    refine wpAnyK_done (by kernel_rfl) ?_
    simp only [List.drop_succ_cons, List.drop_zero]
    clear hHeld2
    obtain ⟨r0, r1', r2', g0, g1, g2⟩ := T2.out.res
    have HB := Lib.hid (show Below w.heap.size w (((u4.setCell ⟨w.heap.size + 1, 0, none⟩ (.bool true)).setCell ⟨w.heap.size + 1, 1, none⟩ (.int .i64 0)).setCell ⟨w.heap.size + 1, 2, none⟩ (.int .i64 0)) from below_set3 T2.out.below (Nat.le_succ _) _ _ _)
    go_wp2_with fail
    exact bodyPost_ret (v := .agg #[.bool true, .int .i64 0, .int .i64 0]) (by simp [results, Try.results118, go_sem, r0, r1', r2']) rfl ⟨true, 0, 0, rfl, HB.out, .inl ⟨rfl, rfl, rfl, .inl hl⟩⟩
  · have t3 : decide (y < x) = false := decide_eq_false hl
    have NF := Lib.hid hl
    clear c0 c1 c2 f0 f1 f2 c3 c4 c5 c6 f3 f4 f5 f6
    refine wp_region_keeps (fun u => GDS w a1 n1 cap1 p1 i1 z1 a2 n2 cap2 p2 i2 z2 L u) 10 1 (by kernel_rfl) (by kernel_rfl) (gds_of T0.out) (fun hHeld0 => ?_)
    refine wpAnyK_take (i := 0) (v := ?_) rfl (by kernel_rfl) (fun _ _ _ h => h) (Or.inl ⟨by rfl, ?_⟩) (by assumption) ?_
    rotate_left
    · (intro w hSw; (try dsimp only at hSw); go_simp; try with_reducible rfl)
    try simp only [Act.put, List.getElem_toArray, List.getElem_cons_zero, List.getElem_cons_succ, List.setIfInBounds_toArray, List.set_cons_zero, List.set_cons_succ]
    refine wpAnyK_take (i := 1) (v := ?_) rfl (by kernel_rfl) (fun _ _ _ h => h) (Or.inl ⟨by rfl, ?_⟩) (by assumption) ?_
    rotate_left
    · (intro w hSw; (try dsimp only at hSw); go_simp; try with_reducible rfl)
    try simp only [Act.put, List.getElem_toArray, List.getElem_cons_zero, List.getElem_cons_succ, List.setIfInBounds_toArray, List.set_cons_zero, List.set_cons_succ]
    refine wpAnyK_take (i := 2) (v := ?_) rfl (by kernel_rfl) (fun _ _ _ h => h) (Or.inl ⟨by rfl, ?_⟩) (by assumption) ?_
    rotate_left
    · (intro w hSw; (try dsimp only at hSw); go_simp; try with_reducible rfl)
    try simp only [Act.put, List.getElem_toArray, List.getElem_cons_zero, List.getElem_cons_succ, List.setIfInBounds_toArray, List.set_cons_zero, List.set_cons_succ]
    refine wpAnyK_take (i := 3) (v := ?_) rfl (by kernel_rfl) (fun _ _ _ h => h) (Or.inl ⟨by rfl, ?_⟩) (by assumption) ?_
    rotate_left
    · (intro w hSw; (try dsimp only at hSw); go_simp; try with_reducible rfl)
    try simp only [Act.put, List.getElem_toArray, List.getElem_cons_zero, List.getElem_cons_succ, List.setIfInBounds_toArray, List.set_cons_zero, List.set_cons_succ]
    refine wpAnyK_take (i := 5) (v := ?_) rfl (by kernel_rfl) (fun _ _ _ h => h) (Or.inl ⟨by rfl, ?_⟩) (by assumption) ?_
    rotate_left
    · (intro w hSw; (try dsimp only at hSw); go_simp; try with_reducible rfl)
    try simp only [Act.put, List.getElem_toArray, List.getElem_cons_zero, List.getElem_cons_succ, List.setIfInBounds_toArray, List.set_cons_zero, List.set_cons_succ]
    refine wpAnyK_take (i := 6) (v := ?_) rfl (by kernel_rfl) (fun _ _ _ h => h) (Or.inl ⟨by rfl, ?_⟩) (by assumption) ?_
    rotate_left
    · (intro w hSw; (try dsimp only at hSw); go_simp; try with_reducible rfl)
    try simp only [Act.put, List.getElem_toArray, List.getElem_cons_zero, List.getElem_cons_succ, List.setIfInBounds_toArray, List.set_cons_zero, List.set_cons_succ]
    refine wpAnyK_take (i := 7) (v := ?_) rfl (by kernel_rfl) (fun _ _ _ h => h) (Or.inl ⟨by rfl, ?_⟩) (by assumption) ?_
    rotate_left
    · (intro w hSw; (try dsimp only at hSw); go_simp; try with_reducible rfl)
    try simp only [Act.put, List.getElem_toArray, List.getElem_cons_zero, List.getElem_cons_succ, List.setIfInBounds_toArray, List.set_cons_zero, List.set_cons_succ]
    refine wpAnyK_take (i := 8) (v := ?_) rfl (by kernel_rfl) (fun _ _ _ h => h) (Or.inl ⟨by rfl, ?_⟩) (by assumption) ?_
    rotate_left
    · (intro w hSw; (try dsimp only at hSw); go_simp; try with_reducible rfl)
    try simp only [Act.put, List.getElem_toArray, List.getElem_cons_zero, List.getElem_cons_succ, List.setIfInBounds_toArray, List.set_cons_zero, List.set_cons_succ]
    refine wpAnyK_step (i := 4) rfl (by kernel_rfl) (fun K hK => ?_)
    go_simp
    with_reducible refine (growth_any a1 n1 cap1 z1 p1 i1 HP.out.g L HP.out.l x HX.out _ T0.out.r1).mono ?_
    rintro e u3 ⟨rfl, hb⟩
    have T1 := Lib.hid (T0.out.call hb)
    clear hb
    refine hK.out _ _ (gds_of T1.out) (fun hHeld1 => ?_)
    clear hK K hHeld0
    try simp only [Act.put, List.getElem_toArray, List.getElem_cons_zero, List.getElem_cons_succ, List.setIfInBounds_toArray, List.set_cons_zero, List.set_cons_succ]
    refine wpAnyK_step (i := 9) rfl (by kernel_rfl) (fun K hK => ?_)
    go_simp
    with_reducible refine (growth_any a2 n2 cap2 z2 p2 i2 HP.out.k L HP.out.l y HY.out _ T1.out.r2).mono ?_
    rintro e u4 ⟨rfl, hb⟩
    have T2 := Lib.hid (T1.out.call hb)
    clear hb
    refine hK.out _ _ (gds_of T2.out) (fun hHeld2 => ?_)
    clear hK K hHeld1
    try simp only [Act.put, List.getElem_toArray, List.getElem_cons_zero, List.getElem_cons_succ, List.setIfInBounds_toArray, List.set_cons_zero, List.set_cons_succ]
    refine wpAnyK_done (by kernel_rfl) ?_
    simp only [List.drop_succ_cons, List.drop_zero]
    clear hHeld2
    have T3 := Lib.hid (T2.out.call ((Below.refl _ _).drew))
    clear hl t3
    go_upto_region 3 with fail
    go_cut [5] (fun s5 wx => s5 = .int .i64 N ∧ Hid (GD w a1 n1 cap1 p1 i1 z1 a2 n2 cap2 p2 i2 z2 L wx))
    case first =>
      rcases hcase with ⟨hl2, hm⟩ | ⟨hl2, hm⟩
      · have t1i : (s1 : Int) < (s2 : Int) := by omega
        have t3 : decide ((s1 : Int) < (s2 : Int)) = true := decide_eq_true t1i
        have t2 : ¬ (s2 : Int) < (s1 : Int) := by omega
        have hmi : (s2 : Int) + (L : Int) = (N : Int) := by omega
        have hmw : IntKind.i64.wrap (N : Int) = (N : Int) := IntWalk.i64_in _ ⟨by omega, by omega⟩
        clear hl2 hm
        refine wp_region_keeps (fun u => GDS w a1 n1 cap1 p1 i1 z1 a2 n2 cap2 p2 i2 z2 L u) 10 1 (by kernel_rfl) (by kernel_rfl) (gds_of T3.out) (fun hHeld0 => ?_)
        refine wpAnyK_take (i := 0) (v := ?_) rfl (by kernel_rfl) (fun _ _ _ h => h) (Or.inl ⟨by rfl, ?_⟩) (by assumption) ?_
        rotate_left
        · (intro w hSw; (try dsimp only at hSw); go_simp; try with_reducible rfl)
        try simp only [Act.put, List.getElem_toArray, List.getElem_cons_zero, List.getElem_cons_succ, List.setIfInBounds_toArray, List.set_cons_zero, List.set_cons_succ]
        refine wpAnyK_take (i := 1) (v := ?_) rfl (by kernel_rfl) (fun _ _ _ h => h) (Or.inl ⟨by rfl, ?_⟩) (by assumption) ?_
        rotate_left
        · (intro w hSw; (try dsimp only at hSw); go_simp; try with_reducible rfl)
        try simp only [Act.put, List.getElem_toArray, List.getElem_cons_zero, List.getElem_cons_succ, List.setIfInBounds_toArray, List.set_cons_zero, List.set_cons_succ]
        refine wpAnyK_take (i := 3) (v := ?_) rfl (by kernel_rfl) (fun _ _ _ h => h) (Or.inl ⟨by rfl, ?_⟩) (by assumption) ?_
        rotate_left
        · (intro w hSw; (try dsimp only at hSw); go_simp; try with_reducible rfl)
        try simp only [Act.put, List.getElem_toArray, List.getElem_cons_zero, List.getElem_cons_succ, List.setIfInBounds_toArray, List.set_cons_zero, List.set_cons_succ]
        refine wpAnyK_take (i := 4) (v := ?_) rfl (by kernel_rfl) (fun _ _ _ h => h) (Or.inl ⟨by rfl, ?_⟩) (by assumption) ?_
        rotate_left
        · (intro w hSw; (try dsimp only at hSw); go_simp; try with_reducible rfl)
        try simp only [Act.put, List.getElem_toArray, List.getElem_cons_zero, List.getElem_cons_succ, List.setIfInBounds_toArray, List.set_cons_zero, List.set_cons_succ]
        refine wpAnyK_take (i := 7) (v := ?_) rfl (by kernel_rfl) (fun _ _ _ h => h) (Or.inl ⟨by rfl, ?_⟩) (by assumption) ?_
        rotate_left
        · (intro w hSw; (try dsimp only at hSw); go_simp; try with_reducible rfl)
        try simp only [Act.put, List.getElem_toArray, List.getElem_cons_zero, List.getElem_cons_succ, List.setIfInBounds_toArray, List.set_cons_zero, List.set_cons_succ]
        refine wpAnyK_take (i := 8) (v := ?_) rfl (by kernel_rfl) (fun _ _ _ h => h) (Or.inl ⟨by rfl, ?_⟩) (by assumption) ?_
        rotate_left
        · (intro w hSw; (try dsimp only at hSw); go_simp; try with_reducible rfl)
        try simp only [Act.put, List.getElem_toArray, List.getElem_cons_zero, List.getElem_cons_succ, List.setIfInBounds_toArray, List.set_cons_zero, List.set_cons_succ]
        refine wpAnyK_step (i := 2) rfl (by kernel_rfl) (fun K hK => ?_)
        go_simp
        with_reducible refine (start_i a1 n1 cap1 z1 p1 i1 HP.out.g HP.out.ng s1 S1.out _ T3.out.r1).mono ?_
        rintro e u5 ⟨rfl, hb⟩
        have T4 := Lib.hid (T3.out.call hb)
        clear hb
        refine hK.out _ _ (gds_of T4.out) (fun hHeld1 => ?_)
        clear hK K hHeld0
        try simp only [Act.put, List.getElem_toArray, List.getElem_cons_zero, List.getElem_cons_succ, List.setIfInBounds_toArray, List.set_cons_zero, List.set_cons_succ]
        refine wpAnyK_step (i := 5) rfl (by kernel_rfl) (fun K hK => ?_)
        go_simp
        with_reducible refine (start_i a2 n2 cap2 z2 p2 i2 HP.out.k HP.out.nk s2 S2.out _ T4.out.r2).mono ?_
        rintro e u6 ⟨rfl, hb⟩
        have T5 := Lib.hid (T4.out.call hb)
        clear hb
        refine hK.out _ _ (gds_of T5.out) (fun hHeld2 => ?_)
        clear hK K hHeld1
        try simp only [Act.put, List.getElem_toArray, List.getElem_cons_zero, List.getElem_cons_succ, List.setIfInBounds_toArray, List.set_cons_zero, List.set_cons_succ]
        refine wpAnyK_take (i := 6) (v := ?_) rfl (by kernel_rfl) (fun _ _ _ h => h) (Or.inl ⟨by rfl, ?_⟩) (by assumption) ?_
        rotate_left
        · (intro w hSw; (try dsimp only at hSw); go_simp; try with_reducible rfl)
        try simp only [Act.put, List.getElem_toArray, List.getElem_cons_zero, List.getElem_cons_succ, List.setIfInBounds_toArray, List.set_cons_zero, List.set_cons_succ]
        refine wpAnyK_take (i := 9) (v := ?_) rfl (by kernel_rfl) (fun _ _ _ h => h) (Or.inl ⟨by rfl, ?_⟩) (by assumption) ?_
        rotate_left
        · (intro w hSw; (try dsimp only at hSw); go_simp; try with_reducible rfl)
        try simp only [Act.put, List.getElem_toArray, List.getElem_cons_zero, List.getElem_cons_succ, List.setIfInBounds_toArray, List.set_cons_zero, List.set_cons_succ]
        refine wpAnyK_done (by kernel_rfl) ?_
        simp only [List.drop_succ_cons, List.drop_zero]
        clear hHeld2
        go_wp2_with fail
        go_meet
        exact ⟨rfl, T5⟩
      · have t1i : ¬ (s1 : Int) < (s2 : Int) := by omega
        have t3 : decide ((s1 : Int) < (s2 : Int)) = false := decide_eq_false t1i

        have hmi : (s1 : Int) + (L : Int) = (N : Int) := by omega
        have hmw : IntKind.i64.wrap (N : Int) = (N : Int) := IntWalk.i64_in _ ⟨by omega, by omega⟩
        clear hl2 hm
        refine wp_region_keeps (fun u => GDS w a1 n1 cap1 p1 i1 z1 a2 n2 cap2 p2 i2 z2 L u) 10 1 (by kernel_rfl) (by kernel_rfl) (gds_of T3.out) (fun hHeld0 => ?_)
        refine wpAnyK_take (i := 0) (v := ?_) rfl (by kernel_rfl) (fun _ _ _ h => h) (Or.inl ⟨by rfl, ?_⟩) (by assumption) ?_
        rotate_left
        · (intro w hSw; (try dsimp only at hSw); go_simp; try with_reducible rfl)
        try simp only [Act.put, List.getElem_toArray, List.getElem_cons_zero, List.getElem_cons_succ, List.setIfInBounds_toArray, List.set_cons_zero, List.set_cons_succ]
        refine wpAnyK_take (i := 1) (v := ?_) rfl (by kernel_rfl) (fun _ _ _ h => h) (Or.inl ⟨by rfl, ?_⟩) (by assumption) ?_
        rotate_left
        · (intro w hSw; (try dsimp only at hSw); go_simp; try with_reducible rfl)
        try simp only [Act.put, List.getElem_toArray, List.getElem_cons_zero, List.getElem_cons_succ, List.setIfInBounds_toArray, List.set_cons_zero, List.set_cons_succ]
        refine wpAnyK_take (i := 3) (v := ?_) rfl (by kernel_rfl) (fun _ _ _ h => h) (Or.inl ⟨by rfl, ?_⟩) (by assumption) ?_
        rotate_left
        · (intro w hSw; (try dsimp only at hSw); go_simp; try with_reducible rfl)
        try simp only [Act.put, List.getElem_toArray, List.getElem_cons_zero, List.getElem_cons_succ, List.setIfInBounds_toArray, List.set_cons_zero, List.set_cons_succ]
        refine wpAnyK_take (i := 4) (v := ?_) rfl (by kernel_rfl) (fun _ _ _ h => h) (Or.inl ⟨by rfl, ?_⟩) (by assumption) ?_
        rotate_left
        · (intro w hSw; (try dsimp only at hSw); go_simp; try with_reducible rfl)
        try simp only [Act.put, List.getElem_toArray, List.getElem_cons_zero, List.getElem_cons_succ, List.setIfInBounds_toArray, List.set_cons_zero, List.set_cons_succ]
        refine wpAnyK_take (i := 7) (v := ?_) rfl (by kernel_rfl) (fun _ _ _ h => h) (Or.inl ⟨by rfl, ?_⟩) (by assumption) ?_
        rotate_left
        · (intro w hSw; (try dsimp only at hSw); go_simp; try with_reducible rfl)
        try simp only [Act.put, List.getElem_toArray, List.getElem_cons_zero, List.getElem_cons_succ, List.setIfInBounds_toArray, List.set_cons_zero, List.set_cons_succ]
        refine wpAnyK_take (i := 8) (v := ?_) rfl (by kernel_rfl) (fun _ _ _ h => h) (Or.inl ⟨by rfl, ?_⟩) (by assumption) ?_
        rotate_left
        · (intro w hSw; (try dsimp only at hSw); go_simp; try with_reducible rfl)
        try simp only [Act.put, List.getElem_toArray, List.getElem_cons_zero, List.getElem_cons_succ, List.setIfInBounds_toArray, List.set_cons_zero, List.set_cons_succ]
        refine wpAnyK_step (i := 2) rfl (by kernel_rfl) (fun K hK => ?_)
        go_simp
        with_reducible refine (start_i a1 n1 cap1 z1 p1 i1 HP.out.g HP.out.ng s1 S1.out _ T3.out.r1).mono ?_
        rintro e u5 ⟨rfl, hb⟩
        have T4 := Lib.hid (T3.out.call hb)
        clear hb
        refine hK.out _ _ (gds_of T4.out) (fun hHeld1 => ?_)
        clear hK K hHeld0
        try simp only [Act.put, List.getElem_toArray, List.getElem_cons_zero, List.getElem_cons_succ, List.setIfInBounds_toArray, List.set_cons_zero, List.set_cons_succ]
        refine wpAnyK_step (i := 5) rfl (by kernel_rfl) (fun K hK => ?_)
        go_simp
        with_reducible refine (start_i a2 n2 cap2 z2 p2 i2 HP.out.k HP.out.nk s2 S2.out _ T4.out.r2).mono ?_
        rintro e u6 ⟨rfl, hb⟩
        have T5 := Lib.hid (T4.out.call hb)
        clear hb
        refine hK.out _ _ (gds_of T5.out) (fun hHeld2 => ?_)
        clear hK K hHeld1
        try simp only [Act.put, List.getElem_toArray, List.getElem_cons_zero, List.getElem_cons_succ, List.setIfInBounds_toArray, List.set_cons_zero, List.set_cons_succ]
        refine wpAnyK_take (i := 6) (v := ?_) rfl (by kernel_rfl) (fun _ _ _ h => h) (Or.inl ⟨by rfl, ?_⟩) (by assumption) ?_
        rotate_left
        · (intro w hSw; (try dsimp only at hSw); go_simp; try with_reducible rfl)
        try simp only [Act.put, List.getElem_toArray, List.getElem_cons_zero, List.getElem_cons_succ, List.setIfInBounds_toArray, List.set_cons_zero, List.set_cons_succ]
        refine wpAnyK_take (i := 9) (v := ?_) rfl (by kernel_rfl) (fun _ _ _ h => h) (Or.inl ⟨by rfl, ?_⟩) (by assumption) ?_
        rotate_left
        · (intro w hSw; (try dsimp only at hSw); go_simp; try with_reducible rfl)
        try simp only [Act.put, List.getElem_toArray, List.getElem_cons_zero, List.getElem_cons_succ, List.setIfInBounds_toArray, List.set_cons_zero, List.set_cons_succ]
        refine wpAnyK_done (by kernel_rfl) ?_
        simp only [List.drop_succ_cons, List.drop_zero]
        clear hHeld2
        go_wp2_with fail
        go_meet
        exact ⟨rfl, T5⟩
    case rest =>
      obtain ⟨rfl, T6⟩ := hcut
      obtain ⟨w6, rfl⟩ : ∃ u : World, u = wc := ⟨_, rfl⟩
      obtain ⟨w7, hw⟩ : ∃ u, w6.alloc (.cells #[.bool false, .int .i64 0, .int .i64 0] 57) = u := ⟨_, rfl⟩
      have hz : Below w6.heap.size w6 w7 := by rw [← hw]; exact (Below.refl _ _).alloc (Nat.le_refl _) _
      have L0 := Lib.hid (show GL w fid caps N D w6.heap.size 0 0 0 w7 from ⟨by rw [← hw]; exact Cur3.new w6 _ _ _ _, T6.out.res.below hz, by have := T6.out.res.lt; omega, most_zero D, T6.out.below.trans (hz.mono T6.out.below.size)⟩)
      have HW7 := Lib.hid hw
      have hNi : N ≤ 520 := by omega
      clear hw hz hcase
      go_upto_region 5 with fail
      try rw [HW7.out]
      obtain ⟨db, hdb⟩ : ∃ db, w6.heap.size = db := ⟨_, rfl⟩
      rw [hdb] at L0
      try rw [hdb]
      have HDB := Lib.hid hdb
      clear hdb
      have eg := EG.out
      go_wp2_with fail
      go_loopw [33] (fun s33 wx => ∃ t : Nat, s33 = .int .i64 t ∧ t ≤ N ∧ Hid (∃ m k, GL w fid caps N D db m k t wx)) (fun s33 _ => N - (intOf s33).toNat)
      case atStart => exact ⟨0, by go_num, Nat.zero_le _, 0, 0, L0.out⟩
      case round =>
        obtain ⟨t, rfl, ht, HS⟩ := hrel
        obtain ⟨wk, rfl⟩ : ∃ u : World, u = wr := ⟨_, rfl⟩
        obtain ⟨m, k, hs⟩ := HS.out
        have HS := Lib.hid hs
        clear hs
        by_cases hlt : t < N
        · have hlti : (t : Int) < (N : Int) := by omega
          obtain ⟨v, hv⟩ : ∃ v, D t = v := ⟨_, rfl⟩
          have hvb := HD.out t hlt
          rw [hv] at hvb
          obtain ⟨hv1, hv2⟩ := hvb
          have HV := Lib.hid hv
          clear hv
          go_wp2_with fail
          refine (HCL.out _ HS.out.below t hlt).mono ?_
          rintro e u3 ⟨rfl, hb⟩
          have HS1 := Lib.hid (HS.out.call hb)
          clear hb
          rw [HV.out]
          by_cases hi : v = 4611686018427387904
          · have t1 : (v == 4611686018427387904) = true := by simpa using hi
            obtain ⟨r0, r1', r2', g0, g1, g2⟩ := HS1.out.res
            have HB := Lib.hid (show Below w.heap.size w (((u3.setCell ⟨w.heap.size + 1, 0, none⟩ (.bool true)).setCell ⟨w.heap.size + 1, 1, none⟩ (.int .i64 0)).setCell ⟨w.heap.size + 1, 2, none⟩ (.int .i64 0)) from below_set3 HS1.out.below (Nat.le_succ _) _ _ _)
            have HI := Lib.hid hi
            clear hi
            go_wp2_with fail
            exact bodyPost_ret (v := .agg #[.bool true, .int .i64 0, .int .i64 0]) (by simp [results, Try.results118, go_sem, r0, r1', r2']) rfl ⟨true, 0, 0, rfl, HB.out, .inl ⟨rfl, rfl, rfl, .inr ⟨t, hlt, HV.out.trans HI.out⟩⟩⟩
          · have t1 : (v == 4611686018427387904) = false := by simpa using hi
            have HI := Lib.hid (show ¬ D t = infV by rw [HV.out]; exact hi)
            clear hi
            obtain ⟨c0, c1, c2, f0, f1, f2⟩ := HS1.out.box
            by_cases hg : m < v
            · have t2 : decide (m < v) = true := decide_eq_true hg
              have HN := Lib.hid (show GL w fid caps N D db v t (t + 1) (((u3.setCell ⟨db, 0, none⟩ (.bool false)).setCell ⟨db, 1, none⟩ (.int .i64 v)).setCell ⟨db, 2, none⟩ (.int .i64 t)) from by
                have h1 := HS1.out.d
                refine ⟨HS1.out.box.set _ _ _, ((HS1.out.res.other (by omega) _ _).other (by omega) _ _).other (by omega) _ _, h1, ?_, below_set3 HS1.out.below (by omega) _ _ _⟩
                have := HS1.out.most.more HI.out (by rw [HV.out]; exact hg)
                rwa [HV.out] at this)
              go_wp2_with fail
              go_roundw
              case rel => exact ⟨t + 1, by go_num, by omega, v, t, HN.out⟩
              case measure => simp [intOf]; omega
            · have t2 : decide (m < v) = false := decide_eq_false hg
              have HN := Lib.hid (show GL w fid caps N D db m k (t + 1) u3 from ⟨HS1.out.box, HS1.out.res, HS1.out.d, HS1.out.most.same HI.out (by rw [HV.out]; exact hg), HS1.out.below⟩)
              go_wp2_with fail
              go_roundw
              case rel => exact ⟨t + 1, by go_num, by omega, m, k, HN.out⟩
              case measure => simp [intOf]; omega
        · obtain rfl : t = N := by omega
          have hlti : ¬ (t : Int) < (t : Int) := by omega
          obtain ⟨c0, c1, c2, f0, f1, f2⟩ := HS.out.box
          obtain ⟨r0, r1', r2', g0, g1, g2⟩ := HS.out.res
          have hne : ¬ db = w.heap.size + 1 := by have := HS.out.d; omega
          have hne2 : ¬ w.heap.size + 1 = db := by have := HS.out.d; omega
          have HB := Lib.hid (show Below w.heap.size w (((wk.setCell ⟨w.heap.size + 1, 0, none⟩ (.bool false)).setCell ⟨w.heap.size + 1, 1, none⟩ (.int .i64 m)).setCell ⟨w.heap.size + 1, 2, none⟩ (.int .i64 k)) from below_set3 HS.out.below (Nat.le_succ _) _ _ _)
          go_wp2_with fail
          exact bodyPost_ret (v := .agg #[.bool false, .int .i64 m, .int .i64 k]) (by simp [results, Try.results118, go_sem, r0, r1', r2']) rfl ⟨false, m, k, rfl, HB.out, .inr ⟨rfl, (by have := NF.out; omega), HS.out.most⟩⟩
end Go.Proofs.Ytjipmkgnndldpaa

namespace Go.Proofs.Ytjipmkgnndldpaa
open Go.RowKit
set_option linter.unusedSimpArgs false
set_option linter.unusedVariables false

section
variable {w w' : World} {b : Nat} {x0 x1 x2 y0 y1 y2 n0 : Value}
theorem P7.set012 (h : P7 w b x0 x1 x2 y0 y1 y2 n0) (z0 z1 z2 : Value) : P7 (((w.setCell ⟨b, 0, none⟩ z0).setCell ⟨b, 1, none⟩ z1).setCell ⟨b, 2, none⟩ z2) b z0 z1 z2 y0 y1 y2 n0 := by
  obtain ⟨⟨c0, c1, c2, f0, f1, f2⟩, c3, c4, c5, c6, f3, f4, f5, f6⟩ := h
  exact ⟨⟨by go_simp, by go_simp, by go_simp, by go_simp, by go_simp, by go_simp⟩, by go_simp, by go_simp, by go_simp, by go_simp, by go_simp, by go_simp, by go_simp, by go_simp⟩
theorem P7.set345 (h : P7 w b x0 x1 x2 y0 y1 y2 n0) (z0 z1 z2 : Value) : P7 (((w.setCell ⟨b, 3, none⟩ z0).setCell ⟨b, 4, none⟩ z1).setCell ⟨b, 5, none⟩ z2) b x0 x1 x2 z0 z1 z2 n0 := by
  obtain ⟨⟨c0, c1, c2, f0, f1, f2⟩, c3, c4, c5, c6, f3, f4, f5, f6⟩ := h
  exact ⟨⟨by go_simp, by go_simp, by go_simp, by go_simp, by go_simp, by go_simp⟩, by go_simp, by go_simp, by go_simp, by go_simp, by go_simp, by go_simp, by go_simp, by go_simp⟩
theorem P7.set6 (h : P7 w b x0 x1 x2 y0 y1 y2 n0) (z0 : Value) : P7 (w.setCell ⟨b, 6, none⟩ z0) b x0 x1 x2 y0 y1 y2 z0 := by
  obtain ⟨⟨c0, c1, c2, f0, f1, f2⟩, c3, c4, c5, c6, f3, f4, f5, f6⟩ := h
  exact ⟨⟨by go_simp, by go_simp, by go_simp, by go_simp, by go_simp, by go_simp⟩, by go_simp, by go_simp, by go_simp, by go_simp, by go_simp, by go_simp, by go_simp, by go_simp⟩
theorem below_v7 {B : Nat} {u w : World} {b : Nat} (h : Below B u w) (hb : B ≤ b) (y0 y1 y2 y3 y4 y5 y6 : Value) : Below B u (((((((w.setCell ⟨b, 0, none⟩ y0).setCell ⟨b, 1, none⟩ y1).setCell ⟨b, 2, none⟩ y2).setCell ⟨b, 3, none⟩ y3).setCell ⟨b, 4, none⟩ y4).setCell ⟨b, 5, none⟩ y5).setCell ⟨b, 6, none⟩ y6) :=
  ((((below_set3 h hb y0 y1 y2).setCell (p := ⟨b, 3, none⟩) hb _).setCell (p := ⟨b, 4, none⟩) hb _).setCell (p := ⟨b, 5, none⟩) hb _).setCell (p := ⟨b, 6, none⟩) hb _
theorem below_v3 {B : Nat} {u w : World} {b i j k : Nat} (h : Below B u w) (hb : B ≤ b) (y0 y1 y2 : Value) : Below B u (((w.setCell ⟨b, i, none⟩ y0).setCell ⟨b, j, none⟩ y1).setCell ⟨b, k, none⟩ y2) :=
  ((h.setCell (p := ⟨b, i, none⟩) hb _).setCell (p := ⟨b, j, none⟩) hb _).setCell (p := ⟨b, k, none⟩) hb _
theorem norm_self2 {zs zs' : List Int} {p p' : Nat} {inc inc' : Int} (h : NormC zs p inc zs' p' inc') (g : Good zs p inc) : NormC zs' p' inc' zs' p' inc' := by
  obtain ⟨s, _, hn⟩ := norm_self (h.eform g)
  exact hn
end

/-- While the pair is made: the boxes of both curves, of the result, and (in the block pb) of the pair; the pair's curves lie behind it. -/
structure SF7 (w : World) (a1 : Option Addr) (n1 cap1 p1 : Nat) (i1 : Int) (z1 : List Int) (a2 : Option Addr) (n2 cap2 p2 : Nat) (i2 : Int) (z2 : List Int) (u : World) : Prop where
  c1 : Cur3 u w.heap.size (.slice a1 n1 cap1) (.int .i64 p1) (.int .i64 i1)
  c2 : Cur3 u (w.heap.size + 1) (.slice a2 n2 cap2) (.int .i64 p2) (.int .i64 i2)
  res : P7 u (w.heap.size + 2) (.slice none 0 0) (.int .i64 0) (.int .i64 0) (.slice none 0 0) (.int .i64 0) (.int .i64 0) (.int .i64 0)
  r1 : RowZ u a1 n1 cap1 z1
  r2 : RowZ u a2 n2 cap2 z2
  f1 : ∀ x, a1 = some x → 1 ≤ n1 → x.block < w.heap.size
  f2 : ∀ x, a2 = some x → 1 ≤ n2 → x.block < w.heap.size
  below : Below w.heap.size w u
section
variable {w u v : World} {a1 : Option Addr} {n1 cap1 p1 : Nat} {i1 : Int} {z1 : List Int} {a2 : Option Addr} {n2 cap2 p2 : Nat} {i2 : Int} {z2 : List Int}
theorem SF7.call (h : SF7 w a1 n1 cap1 p1 i1 z1 a2 n2 cap2 p2 i2 z2 u) (hb : Below u.heap.size u v) : SF7 w a1 n1 cap1 p1 i1 z1 a2 n2 cap2 p2 i2 z2 v :=
  ⟨h.c1.below hb, h.c2.below hb, h.res.below hb, h.r1.under hb, h.r2.under hb, h.f1, h.f2, h.below.trans (hb.mono h.below.size)⟩
theorem SF7.other (h : SF7 w a1 n1 cap1 p1 i1 z1 a2 n2 cap2 p2 i2 z2 u) {b : Nat} (hb : w.heap.size + 2 < b) (i : Nat) (v : Value) : SF7 w a1 n1 cap1 p1 i1 z1 a2 n2 cap2 p2 i2 z2 (u.setCell ⟨b, i, none⟩ v) :=
  ⟨h.c1.other (by omega) _ _, h.c2.other (by omega) _ _, h.res.other (by omega) _ _, h.r1.store (fun x h1 h2 => by have := h.f1 x h1 h2; omega) _ _, h.r2.store (fun x h1 h2 => by have := h.f2 x h1 h2; omega) _ _, h.f1, h.f2, h.below.setCell (p := ⟨b, i, none⟩) (by show w.heap.size ≤ b; omega) v⟩
theorem sf7_start (h1 : RowZ w a1 n1 cap1 z1) (h2 : RowZ w a2 n2 cap2 z2) {W : World} (hW : ((w.alloc (.cells #[.slice a1 n1 cap1, .int .i64 p1, .int .i64 i1] 38)).alloc (.cells #[.slice a2 n2 cap2, .int .i64 p2, .int .i64 i2] 38)).alloc (.cells #[.slice none 0 0, .int .i64 0, .int .i64 0, .slice none 0 0, .int .i64 0, .int .i64 0, .int .i64 0] 131) = W) : SF7 w a1 n1 cap1 p1 i1 z1 a2 n2 cap2 p2 i2 z2 W ∧ W.heap.size = w.heap.size + 3 := by
  subst hW
  have hB : Below w.heap.size w (((w.alloc (.cells #[.slice a1 n1 cap1, .int .i64 p1, .int .i64 i1] 38)).alloc (.cells #[.slice a2 n2 cap2, .int .i64 p2, .int .i64 i2] 38)).alloc (.cells #[.slice none 0 0, .int .i64 0, .int .i64 0, .slice none 0 0, .int .i64 0, .int .i64 0, .int .i64 0] 131)) := (((Below.refl _ _).alloc (Nat.le_refl _) _).alloc (by simp) _).alloc (by simp; omega) _
  refine ⟨⟨((Cur3.new w _ _ _ _).alloc _).alloc _, (Cur3.new2 w _ _ _ _ _).alloc _, ?_, h1.under hB, h2.under hB, fun x k1 k2 => h1.far x k1 k2, fun x k1 k2 => h2.far x k1 k2, hB⟩, by simp⟩
  have := p7_new ((w.alloc (.cells #[.slice a1 n1 cap1, .int .i64 p1, .int .i64 i1] 38)).alloc (.cells #[.slice a2 n2 cap2, .int .i64 p2, .int .i64 i2] 38)) (.slice none 0 0) (.int .i64 0) (.int .i64 0) (.slice none 0 0) (.int .i64 0) (.int .i64 0) (.int .i64 0) 131
  simpa using this
end

/-- While the pair in the block pb is filled: what it holds, and the rows of its curves, which lie behind it. -/
structure SN7 (w : World) (pb : Nat) (a1 : Option Addr) (n1 cap1 p1 : Nat) (i1 : Int) (z1 : List Int) (a2 : Option Addr) (n2 cap2 p2 : Nat) (i2 : Int) (z2 : List Int) (n0 : Value) (u : World) : Prop where
  res : P7 u (w.heap.size + 2) (.slice none 0 0) (.int .i64 0) (.int .i64 0) (.slice none 0 0) (.int .i64 0) (.int .i64 0) (.int .i64 0)
  pr : P7 u pb (.slice a1 n1 cap1) (.int .i64 p1) (.int .i64 i1) (.slice a2 n2 cap2) (.int .i64 p2) (.int .i64 i2) n0
  r1 : RowZ u a1 n1 cap1 z1
  r2 : RowZ u a2 n2 cap2 z2
  f1 : ∀ x, a1 = some x → pb < x.block
  f2 : ∀ x, a2 = some x → pb < x.block
  hp : w.heap.size + 2 < pb
  below : Below w.heap.size w u
section
variable {w u v : World} {pb : Nat} {a1 : Option Addr} {n1 cap1 p1 : Nat} {i1 : Int} {z1 : List Int} {a2 : Option Addr} {n2 cap2 p2 : Nat} {i2 : Int} {z2 : List Int} {n0 : Value}
theorem SN7.call (h : SN7 w pb a1 n1 cap1 p1 i1 z1 a2 n2 cap2 p2 i2 z2 n0 u) (hb : Below u.heap.size u v) : SN7 w pb a1 n1 cap1 p1 i1 z1 a2 n2 cap2 p2 i2 z2 n0 v :=
  ⟨h.res.below hb, h.pr.below hb, h.r1.under hb, h.r2.under hb, h.f1, h.f2, h.hp, h.below.trans (hb.mono h.below.size)⟩
theorem SN7.put6 (h : SN7 w pb a1 n1 cap1 p1 i1 z1 a2 n2 cap2 p2 i2 z2 n0 u) (x : Value) : SN7 w pb a1 n1 cap1 p1 i1 z1 a2 n2 cap2 p2 i2 z2 x (u.setCell ⟨pb, 6, none⟩ x) := by
  have hp := h.hp
  exact ⟨h.res.other (by omega) _ _, h.pr.set6 x, h.r1.store (fun y hy _ => by have := h.f1 y hy; omega) _ _, h.r2.store (fun y hy _ => by have := h.f2 y hy; omega) _ _, h.f1, h.f2, hp, h.below.setCell (p := ⟨pb, 6, none⟩) (by show w.heap.size ≤ pb; omega) x⟩
end

/-- The pair of two curves: their normal forms, and their common period. -/
def GivesPair7 (y1 : List Int) (q1 : Nat) (j1 : Int) (y2 : List Int) (q2 : Nat) (j2 : Int) (L : Nat) (w : World) (e : Ending) (w' : World) : Prop :=
  ∃ a1 n1 cap1 a2 n2 cap2, e = .returned (.tuple #[.agg #[.slice a1 n1 cap1, .int .i64 q1, .int .i64 j1, .slice a2 n2 cap2, .int .i64 q2, .int .i64 j2, .int .i64 L], .int .i64 0]) ∧ Below w.heap.size w w' ∧ RowZ w' a1 n1 cap1 y1 ∧ RowZ w' a2 n2 cap2 y2

set_option maxRecDepth 100000 in
set_option maxHeartbeats 6400000 in
theorem vpaired_ok (a1 : Option Addr) (n1 cap1 : Nat) (z1 : List Int) (p1 : Nat) (i1 : Int) (g1 : Good z1 p1 i1) (a2 : Option Addr) (n2 cap2 : Nat) (z2 : List Int) (p2 : Nat) (i2 : Int) (g2 : Good z2 p2 i2)
    {y1 y2 : List Int} {q1 q2 : Nat} {j1 j2 : Int} (hn1 : NormC z1 p1 i1 y1 q1 j1) (hn2 : NormC z2 p2 i2 y2 q2 j2) (L : Nat) (hL : q1 / Nat.gcd q1 q2 * q2 = L) (hL2 : L ≤ 120) (w : World) (h1 : RowZ w a1 n1 cap1 z1) (h2 : RowZ w a2 n2 cap2 z2) :
    Calls Try.prog 116 #[curV a1 n1 cap1 p1 i1, curV a2 n2 cap2 p2 i2] w (GivesPair7 y1 q1 j1 y2 q2 j2 L w) := by
  obtain ⟨W, hW⟩ : ∃ W, ((w.alloc (.cells #[.slice a1 n1 cap1, .int .i64 p1, .int .i64 i1] 38)).alloc (.cells #[.slice a2 n2 cap2, .int .i64 p2, .int .i64 i2] 38)).alloc (.cells #[.slice none 0 0, .int .i64 0, .int .i64 0, .slice none 0 0, .int .i64 0, .int .i64 0, .int .i64 0] 131) = W := ⟨_, rfl⟩
  obtain ⟨t0, hsz⟩ := sf7_start (p1 := p1) (i1 := i1) (p2 := p2) (i2 := i2) h1 h2 hW
  have T0 := Lib.hid t0
  have HSZ := Lib.hid hsz
  have HW := Lib.hid hW
  have V1 := Lib.hid ((okC_iff z1 p1 i1).2 g1)
  have V2 := Lib.hid ((okC_iff z2 p2 i2).2 g2)
  have G1 := Lib.hid g1
  have G2 := Lib.hid g2
  have HN := Lib.hid (And.intro hn1 hn2)
  have HL := Lib.hid hL
  have e1 : In64 (p1 : Int) := ⟨by omega, by have := g1.p2; omega⟩
  have e2 : In64 (p2 : Int) := ⟨by omega, by have := g2.p2; omega⟩
  have e3 : In64 i1 := ⟨by have := g1.i0; omega, by have := g1.i1; omega⟩
  have e4 : In64 i2 := ⟨by have := g2.i0; omega, by have := g2.i1; omega⟩
  have HI := Lib.hid (And.intro (And.intro e1 e3) (And.intro e2 e4))
  clear t0 hsz hW g1 g2 hn1 hn2 hL h1 h2 e1 e2 e3 e4
  go_enter Try.func116, Try.ntmps116
  go_wp2_with fail
  try rw [HW.out]
  refine (valid_any a1 n1 cap1 z1 p1 i1 HI.out.1.1 HI.out.1.2 true V1.out _ T0.out.r1).mono ?_
  rintro e w1 ⟨rfl, hb⟩
  have T1 := Lib.hid (T0.out.call hb)
  have HS1 := Lib.hid (Nat.le_trans (Nat.le_of_eq HSZ.out.symm) hb.size)
  clear hb
  obtain ⟨c0, c1, c2, f0, f1, f2⟩ := T1.out.c2
  go_wp2_with fail
  refine (valid_any a2 n2 cap2 z2 p2 i2 HI.out.2.1 HI.out.2.2 true V2.out _ T1.out.r2).mono ?_
  rintro e w2 ⟨rfl, hb⟩
  have T2 := Lib.hid (T1.out.call hb)
  have HS2 := Lib.hid (Nat.le_trans HS1.out hb.size)
  clear hb c0 c1 c2 f0 f1 f2
  obtain ⟨W5, hW5⟩ : ∃ W', w2.alloc (.cells #[.slice none 0 0, .int .i64 0, .int .i64 0, .slice none 0 0, .int .i64 0, .int .i64 0, .int .i64 0] 131) = W' := ⟨_, rfl⟩
  have hb5 : Below w2.heap.size w2 W5 := by rw [← hW5]; exact (Below.refl _ _).alloc (Nat.le_refl _) _
  have T5 := Lib.hid (T2.out.call hb5)
  have PB := Lib.hid (show P7 W5 w2.heap.size (.slice none 0 0) (.int .i64 0) (.int .i64 0) (.slice none 0 0) (.int .i64 0) (.int .i64 0) (.int .i64 0) by rw [← hW5]; exact p7_new w2 (.slice none 0 0) (.int .i64 0) (.int .i64 0) (.slice none 0 0) (.int .i64 0) (.int .i64 0) (.int .i64 0) _)
  have HW5 := Lib.hid hW5
  have HS5 := Lib.hid (show w.heap.size + 2 < w2.heap.size by have := HS2.out; omega)
  clear hb5 hW5
  go_upto_region 4 with fail
  try rw [HW5.out]
  obtain ⟨c0, c1, c2, f0, f1, f2⟩ := T5.out.c1
  go_wp2_with fail
  refine (normal_ok a1 n1 cap1 z1 p1 i1 G1.out _ T5.out.r1).mono ?_
  rintro e w3 ⟨a3, n3, cap3, x1, r1, k1, rfl, hb, hr, hn, hx⟩
  obtain ⟨rfl, rfl, rfl⟩ := hn.canon G1.out G1.out HN.out.1 (fun _ => rfl)
  obtain ⟨W6, hW6⟩ : ∃ W', (((w3.setCell ⟨w2.heap.size, 0, none⟩ (.slice a3 n3 cap3)).setCell ⟨w2.heap.size, 1, none⟩ (.int .i64 r1)).setCell ⟨w2.heap.size, 2, none⟩ (.int .i64 k1)) = W' := ⟨_, rfl⟩
  have T6 := Lib.hid (show SF7 w a1 n1 cap1 p1 i1 z1 a2 n2 cap2 p2 i2 z2 W6 by rw [← hW6]; have h9 := HS5.out; exact (((T5.out.call hb).other h9 _ _).other h9 _ _).other h9 _ _)
  have PB6 := Lib.hid (show P7 W6 w2.heap.size (.slice a3 n3 cap3) (.int .i64 r1) (.int .i64 k1) (.slice none 0 0) (.int .i64 0) (.int .i64 0) (.int .i64 0) by rw [← hW6]; exact (PB.out.below hb).set012 _ _ _)
  have hlt3 : w2.heap.size < w3.heap.size := Nat.lt_of_lt_of_le PB.out.lt hb.size
  have X3 := Lib.hid (show ∀ x, a3 = some x → w2.heap.size < x.block from fun x h => by have := hx x h; have := PB.out.lt; omega)
  have RX3 := Lib.hid (show RowZ W6 a3 n3 cap3 x1 by
    rw [← hW6]
    have q : ∀ x, a3 = some x → 1 ≤ n3 → x.block ≠ w2.heap.size := fun x h _ => by have := X3.out x h; omega
    exact ((hr.store q _ _).store q _ _).store q _ _)
  have HW6 := Lib.hid hW6
  obtain ⟨⟨c0, c1, c2, f0, f1, f2⟩, c3, c4, c5, c6, f3, f4, f5, f6⟩ := PB.out.below hb
  clear hb hr hn hx hW6 hlt3
  go_upto_region 5 with fail
  try rw [HW6.out]
  clear c0 c1 c2 f0 f1 f2 c3 c4 c5 c6 f3 f4 f5 f6
  obtain ⟨c0, c1, c2, f0, f1, f2⟩ := T6.out.c2
  go_wp2_with fail
  refine (normal_ok a2 n2 cap2 z2 p2 i2 G2.out _ T6.out.r2).mono ?_
  rintro e w4 ⟨a4, n4, cap4, x2, r2, k2, rfl, hb, hr, hn, hx⟩
  obtain ⟨rfl, rfl, rfl⟩ := hn.canon G2.out G2.out HN.out.2 (fun _ => rfl)
  obtain ⟨W7, hW7⟩ : ∃ W', (((w4.setCell ⟨w2.heap.size, 3, none⟩ (.slice a4 n4 cap4)).setCell ⟨w2.heap.size, 4, none⟩ (.int .i64 r2)).setCell ⟨w2.heap.size, 5, none⟩ (.int .i64 k2)) = W' := ⟨_, rfl⟩
  have N7 := Lib.hid (show SN7 w w2.heap.size a3 n3 cap3 r1 k1 x1 a4 n4 cap4 r2 k2 x2 (.int .i64 0) W7 by
    have h9 := HS5.out
    have hle : w2.heap.size < W6.heap.size := PB6.out.lt
    have X4 : ∀ x, a4 = some x → w2.heap.size < x.block := fun x h => by have := hx x h; omega
    have q3 : ∀ x, a3 = some x → 1 ≤ n3 → x.block ≠ w2.heap.size := fun x h _ => by have := X3.out x h; omega
    have q4 : ∀ x, a4 = some x → 1 ≤ n4 → x.block ≠ w2.heap.size := fun x h _ => by have := X4 x h; omega
    rw [← hW7]
    exact ⟨((((T6.out.call hb).res.other (by omega) _ _).other (by omega) _ _).other (by omega) _ _), (PB6.out.below hb).set345 _ _ _, ((((RX3.out.under hb).store q3 _ _).store q3 _ _).store q3 _ _), (((hr.store q4 _ _).store q4 _ _).store q4 _ _), X3.out, X4, h9, below_v3 (T6.out.call hb).below (by omega) _ _ _⟩)
  have HW7 := Lib.hid hW7
  clear c0 c1 c2 f0 f1 f2
  obtain ⟨⟨c0, c1, c2, f0, f1, f2⟩, c3, c4, c5, c6, f3, f4, f5, f6⟩ := PB6.out.below hb
  clear hb hr hn hx hW7
  have GX := Lib.hid (And.intro (HN.out.1.good G1.out) (HN.out.2.good G2.out))
  have bp1 := GX.out.1.p1
  have bp2 := GX.out.1.p2
  have bp3 := GX.out.2.p1
  have bp4 := GX.out.2.p2
  go_upto_region 6 with fail
  try rw [HW7.out]
  clear c0 c1 c2 f0 f1 f2 c3 c4 c5 c6 f3 f4 f5 f6
  obtain ⟨⟨c0, c1, c2, f0, f1, f2⟩, c3, c4, c5, c6, f3, f4, f5, f6⟩ := N7.out.pr
  go_wp2_with fail
  refine (common_any r1 r2 L HL.out bp1 (by omega) bp3 (by omega) _).mono ?_
  rintro e w5 ⟨rfl, hd⟩
  have N8 := Lib.hid ((N7.out.call (below_dr (Below.refl _ _) hd)).put6 (.int .i64 L))
  clear c0 c1 c2 f0 f1 f2 c3 c4 c5 c6 f3 f4 f5 f6
  obtain ⟨⟨c0, c1, c2, f0, f1, f2⟩, c3, c4, c5, c6, f3, f4, f5, f6⟩ := N7.out.pr.below (below_dr (Below.refl _ _) hd)
  clear hd
  obtain ⟨W8, hW8⟩ : ∃ W', w5.setCell ⟨w2.heap.size, 6, none⟩ (.int .i64 L) = W' := ⟨_, rfl⟩
  rw [hW8] at N8
  have HW8 := Lib.hid hW8
  clear hW8
  have hLi : ¬ (120 : Int) < (L : Int) := by omega
  go_upto_region 7 with fail
  try rw [HW8.out]
  clear c0 c1 c2 f0 f1 f2 c3 c4 c5 c6 f3 f4 f5 f6
  obtain ⟨⟨c0, c1, c2, f0, f1, f2⟩, c3, c4, c5, c6, f3, f4, f5, f6⟩ := N8.out.pr
  go_upto_region 9 with fail
  obtain ⟨⟨d0, d1, d2, e0, e1, e2⟩, d3, d4, d5, d6, e3, e4, e5, e6⟩ := N8.out.res
  have HP := Lib.hid (show GivesPair7 x1 r1 k1 x2 r2 k2 L w (.returned (.tuple #[.agg #[.slice a3 n3 cap3, .int .i64 r1, .int .i64 k1, .slice a4 n4 cap4, .int .i64 r2, .int .i64 k2, .int .i64 L], .int .i64 0])) ((((((((W8.setCell ⟨w.heap.size + 2, 0, none⟩ (.slice a3 n3 cap3)).setCell ⟨w.heap.size + 2, 1, none⟩ (.int .i64 r1)).setCell ⟨w.heap.size + 2, 2, none⟩ (.int .i64 k1)).setCell ⟨w.heap.size + 2, 3, none⟩ (.slice a4 n4 cap4)).setCell ⟨w.heap.size + 2, 4, none⟩ (.int .i64 r2)).setCell ⟨w.heap.size + 2, 5, none⟩ (.int .i64 k2)).setCell ⟨w.heap.size + 2, 6, none⟩ (.int .i64 L))) by
    have hp := N8.out.hp
    have q3 : ∀ x, a3 = some x → 1 ≤ n3 → x.block ≠ w.heap.size + 2 := fun x h _ => by have := N8.out.f1 x h; omega
    have q4 : ∀ x, a4 = some x → 1 ≤ n4 → x.block ≠ w.heap.size + 2 := fun x h _ => by have := N8.out.f2 x h; omega
    exact ⟨a3, n3, cap3, a4, n4, cap4, rfl, below_v7 N8.out.below (by omega) _ _ _ _ _ _ _, (((((((N8.out.r1.store q3 _ _).store q3 _ _).store q3 _ _).store q3 _ _).store q3 _ _).store q3 _ _).store q3 _ _), (((((((N8.out.r2.store q4 _ _).store q4 _ _).store q4 _ _).store q4 _ _).store q4 _ _).store q4 _ _).store q4 _ _)⟩)
  go_wp2_with fail
  exact bodyPost_ret (v := .tuple #[.agg #[.slice a3 n3 cap3, .int .i64 r1, .int .i64 k1, .slice a4 n4 cap4, .int .i64 r2, .int .i64 k2, .int .i64 L], .int .i64 0]) (by simp [results, Try.results116, go_sem, d0, d1, d2, d3, d4, d5, d6]) rfl HP.out
end Go.Proofs.Ytjipmkgnndldpaa
