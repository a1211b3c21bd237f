/- The pair of a convolution: its block, sum, growth; a curve's part in it. By the verifier's side. | The convolution of a pair; Of. By the verifier's side. | Horizon, repeats, attains. By the verifier's side. | The least splits; a list of splits is checked; all sums are at least the result. By the verifier's side. -/
import Derived.Test.YtjipmkgnndldpaaERowF
import Derived.Test.YtjipmkgnndldpaaEKeepT
import Derived.BigRegion
import Derived.Test.YtjipmkgnndldpaaEConMN
namespace Go.Proofs.Ytjipmkgnndldpaa
open Go.RowKit
set_option linter.unusedSimpArgs false
set_option linter.unusedVariables false

/-- Block b holds two parts and a number, and may be written. -/
structure Pr7 (w : World) (b : Nat) (x0 x1 x2 y0 y1 y2 z0 : Value) : Prop where
  lo : Cur3 w b x0 x1 x2
  c3 : w.cell? ⟨b, 3, none⟩ = some y0
  c4 : w.cell? ⟨b, 4, none⟩ = some y1
  c5 : w.cell? ⟨b, 5, none⟩ = some y2
  c6 : w.cell? ⟨b, 6, none⟩ = some z0
  f3 : w.frozen? ⟨b, 3, none⟩ = false
  f4 : w.frozen? ⟨b, 4, none⟩ = false
  f5 : w.frozen? ⟨b, 5, none⟩ = false
  f6 : w.frozen? ⟨b, 6, none⟩ = false
section
variable {w w' : World} {b : Nat} {x0 x1 x2 y0 y1 y2 z0 : Value}
theorem Pr7.lt (h : Pr7 w b x0 x1 x2 y0 y1 y2 z0) : b < w.heap.size := h.lo.lt
theorem Pr7.below (h : Pr7 w b x0 x1 x2 y0 y1 y2 z0) (hb : Below w.heap.size w w') : Pr7 w' b x0 x1 x2 y0 y1 y2 z0 :=
  ⟨h.lo.below hb, (hb.cell (p := ⟨b, 3, none⟩) h.lt).trans h.c3, (hb.cell (p := ⟨b, 4, none⟩) h.lt).trans h.c4, (hb.cell (p := ⟨b, 5, none⟩) h.lt).trans h.c5, (hb.cell (p := ⟨b, 6, none⟩) h.lt).trans h.c6, (hb.frozen (p := ⟨b, 3, none⟩) h.lt).trans h.f3, (hb.frozen (p := ⟨b, 4, none⟩) h.lt).trans h.f4, (hb.frozen (p := ⟨b, 5, none⟩) h.lt).trans h.f5, (hb.frozen (p := ⟨b, 6, none⟩) h.lt).trans h.f6⟩
theorem Pr7.other (h : Pr7 w b x0 x1 x2 y0 y1 y2 z0) {q : Nat} (hq : ¬ b = q) (i : Nat) (v : Value) : Pr7 (w.setCell ⟨q, i, none⟩ v) b x0 x1 x2 y0 y1 y2 z0 := by
  have hb : (w.setCell ⟨q, i, none⟩ v).heap[b]? = w.heap[b]? := Below.heap_setCell _ _ _ _ hq
  exact ⟨h.lo.other hq i v, (World.cell?_of_block (w := w) (a := ⟨b, 3, none⟩) hb).trans h.c3, (World.cell?_of_block (w := w) (a := ⟨b, 4, none⟩) hb).trans h.c4, (World.cell?_of_block (w := w) (a := ⟨b, 5, none⟩) hb).trans h.c5, (World.cell?_of_block (w := w) (a := ⟨b, 6, none⟩) hb).trans h.c6, (World.frozen?_of_block (w := w) (a := ⟨b, 3, none⟩) hb).trans h.f3, (World.frozen?_of_block (w := w) (a := ⟨b, 4, none⟩) hb).trans h.f4, (World.frozen?_of_block (w := w) (a := ⟨b, 5, none⟩) hb).trans h.f5, (World.frozen?_of_block (w := w) (a := ⟨b, 6, none⟩) hb).trans h.f6⟩
theorem pr7_new (w : World) (x0 x1 x2 y0 y1 y2 z0 : Value) (t : TypeId) : Pr7 (w.alloc (.cells #[x0, x1, x2, y0, y1, y2, z0] t)) w.heap.size x0 x1 x2 y0 y1 y2 z0 :=
  ⟨⟨by go_simp, by go_simp, by go_simp, by go_simp, by go_simp, by go_simp⟩, by go_simp, by go_simp, by go_simp, by go_simp, by go_simp, by go_simp, by go_simp, by go_simp⟩
end

/-- The pair, as it is handed on: lists of 1160 values in the blocks la and lb. -/
abbrev pairV (la : Nat) (S1 : Nat) (G1 : Int) (lb : Nat) (S2 : Nat) (G2 : Int) (L : Nat) : Value :=
  .agg #[.slice (some ⟨la, 0, none⟩) 1160 1160, .int .i64 S1, .int .i64 G1, .slice (some ⟨lb, 0, none⟩) 1160 1160, .int .i64 S2, .int .i64 G2, .int .i64 L]
abbrev PrB (w : World) (b la S1 : Nat) (G1 : Int) (lb S2 : Nat) (G2 : Int) (L : Nat) : Prop :=
  Pr7 w b (.slice (some ⟨la, 0, none⟩) 1160 1160) (.int .i64 S1) (.int .i64 G1) (.slice (some ⟨lb, 0, none⟩) 1160 1160) (.int .i64 S2) (.int .i64 G2) (.int .i64 L)

set_option maxHeartbeats 1600000 in
theorem csum_any (la S1 : Nat) (G1 : Int) (lb S2 : Nat) (G2 : Int) (L : Nat) (F1 F2 : Nat → Int) (si ui : Int) (s u : Nat) (hsi : si = s) (hui : ui = u) (hs : s < 1160) (hu : u < 1160) (hm1 : Mid (F1 s)) (hm2 : Mid (F2 u)) (v : Int) (hv : plI (F1 s) (F2 u) = v) (w : World) (h1 : RowF w la 1160 F1) (h2 : RowF w lb 1160 F2) :
    Calls Try.prog 201 #[pairV la S1 G1 lb S2 G2 L, .int .i64 si, .int .i64 ui] w (Says (.int .i64 v) w) := by
  subst hsi hui
  have hB : Below w.heap.size w (w.alloc _) := below_box (w := w) (.cells #[.slice (some ⟨la, 0, none⟩) 1160 1160, .int .i64 S1, .int .i64 G1, .slice (some ⟨lb, 0, none⟩) 1160 1160, .int .i64 S2, .int .i64 G2, .int .i64 L] 123)
  have HBl := Lib.hid hB
  have KP := Lib.hid (pr7_new w (.slice (some ⟨la, 0, none⟩) 1160 1160) (.int .i64 S1) (.int .i64 G1) (.slice (some ⟨lb, 0, none⟩) 1160 1160) (.int .i64 S2) (.int .i64 G2) (.int .i64 L) 123)
  obtain ⟨x, hx⟩ : ∃ x, F1 s = x := ⟨_, rfl⟩
  obtain ⟨y, hy⟩ : ∃ y, F2 u = y := ⟨_, rfl⟩
  have e1 := ((h1.under hB).cell s hs).1
  have e2 := ((h2.under hB).cell u hu).1
  rw [hx] at hm1 hv e1
  rw [hy] at hm2 hv e2
  have HP := Lib.hid (show ∀ W, Calls Try.prog 126 #[.int .i64 x, .int .i64 y] W fun e w' => e = .returned (.int .i64 v) ∧ w' = W from fun W => by rw [← hv]; exact pplus_any x y hm1 hm2 W)
  have i1 : (s : Int) < 1160 := by omega
  have i2 : (u : Int) < 1160 := by omega
  clear hB h1 h2 hx hy hm1 hm2 hv
  go_enter Try.func201, Try.ntmps201
  go_wp2_with fail
  generalize w.alloc (.cells #[.slice (some ⟨la, 0, none⟩) 1160 1160, .int .i64 S1, .int .i64 G1, .slice (some ⟨lb, 0, none⟩) 1160 1160, .int .i64 S2, .int .i64 G2, .int .i64 L] 123) = w0 at HBl KP e1 e2 ⊢
  obtain ⟨⟨c0, c1, c2, f0, f1, f2⟩, c3, c4, c5, c6, f3, f4, f5, f6⟩ := KP.out
  go_quiet ((go_at_call 126; exact Calls.quiet_of_same (HP.out _)))
  go_wp2_with fail
  go_ret
  exact ⟨rfl, HBl.out.drewN _⟩

set_option maxHeartbeats 1600000 in
theorem cgrow_any (la S1 : Nat) (G1 : Int) (lb S2 : Nat) (G2 : Int) (L : Nat) (F1 F2 : Nat → Int) (hm1 : Mid (F1 0)) (hm2 : Mid (F2 0)) (v : Int) (hv : (if plI (F1 0) (F2 0) = infV then infV else min G1 G2) = v) (w : World) (h1 : RowF w la 1160 F1) (h2 : RowF w lb 1160 F2) :
    Calls Try.prog 203 #[pairV la S1 G1 lb S2 G2 L] w (Says (.int .i64 v) w) := by
  have hB : Below w.heap.size w (w.alloc _) := below_box (w := w) (.cells #[.slice (some ⟨la, 0, none⟩) 1160 1160, .int .i64 S1, .int .i64 G1, .slice (some ⟨lb, 0, none⟩) 1160 1160, .int .i64 S2, .int .i64 G2, .int .i64 L] 123)
  have HBl := Lib.hid hB
  have KP := Lib.hid (pr7_new w (.slice (some ⟨la, 0, none⟩) 1160 1160) (.int .i64 S1) (.int .i64 G1) (.slice (some ⟨lb, 0, none⟩) 1160 1160) (.int .i64 S2) (.int .i64 G2) (.int .i64 L) 123)
  have H1 := Lib.hid (h1.under hB)
  have H2 := Lib.hid (h2.under hB)
  obtain ⟨x, hx⟩ : ∃ x, plI (F1 0) (F2 0) = x := ⟨_, rfl⟩
  have HX := Lib.hid hx
  have HM := Lib.hid (And.intro hm1 hm2)
  rw [hx] at hv
  clear hB h1 h2 hx hm1 hm2
  by_cases hi : x = 4611686018427387904
  · subst hi
    rw [if_pos rfl] at hv
    subst hv
    go_enter Try.func203, Try.ntmps203
    go_wp2_with fail
    generalize w.alloc (.cells #[.slice (some ⟨la, 0, none⟩) 1160 1160, .int .i64 S1, .int .i64 G1, .slice (some ⟨lb, 0, none⟩) 1160 1160, .int .i64 S2, .int .i64 G2, .int .i64 L] 123) = w0 at HBl KP H1 H2 ⊢
    obtain ⟨⟨c0, c1, c2, f0, f1, f2⟩, c3, c4, c5, c6, f3, f4, f5, f6⟩ := KP.out
    go_wp2_with fail
    refine (csum_any la S1 G1 lb S2 G2 L F1 F2 _ _ 0 0 rfl rfl (by omega) (by omega) HM.out.1 HM.out.2 _ HX.out _ H1.out H2.out).mono ?_
    rintro e w1 ⟨rfl, hb⟩
    have HB1 := Lib.hid (HBl.out.trans (hb.mono HBl.out.size))
    clear hb
    go_wp2_with fail
    go_ret
    exact ⟨rfl, HB1.out⟩
  · rw [if_neg hi] at hv
    have t1 : (x == 4611686018427387904) = false := by simpa using hi
    clear hi
    have hmin : (G1 ≤ G2 ∧ G1 = v) ∨ (¬ G1 ≤ G2 ∧ G2 = v) := by omega
    clear hv
    rcases hmin with ⟨hle, rfl⟩ | ⟨hle, rfl⟩
    all_goals
      go_enter Try.func203, Try.ntmps203
      go_wp2_with fail
      generalize w.alloc (.cells #[.slice (some ⟨la, 0, none⟩) 1160 1160, .int .i64 S1, .int .i64 G1, .slice (some ⟨lb, 0, none⟩) 1160 1160, .int .i64 S2, .int .i64 G2, .int .i64 L] 123) = w0 at HBl KP H1 H2 ⊢
      obtain ⟨⟨c0, c1, c2, f0, f1, f2⟩, c3, c4, c5, c6, f3, f4, f5, f6⟩ := KP.out
      go_wp2_with fail
      refine (csum_any la S1 _ lb S2 _ L F1 F2 _ _ 0 0 rfl rfl (by omega) (by omega) HM.out.1 HM.out.2 _ HX.out _ H1.out H2.out).mono ?_
      rintro e w1 ⟨rfl, hb⟩
      have HB1 := Lib.hid (HBl.out.trans (hb.mono HBl.out.size))
      clear c0 c1 c2 f0 f1 f2 c3 c4 c5 c6 f3 f4 f5 f6
      obtain ⟨⟨c0, c1, c2, f0, f1, f2⟩, c3, c4, c5, c6, f3, f4, f5, f6⟩ := KP.out.below hb
      clear hb
      go_wp2_with fail
      all_goals go_ret
      all_goals exact ⟨ret_int (by omega), HB1.out⟩

theorem make_1160 (w : World) : (Instr.makeSlice 27 (.int .i64 1160) (.int .i64 1160)).run Try.prog w = .ok (.slice (some ⟨w.heap.size, 0, none⟩) 1160 1160) (w.alloc (.cells (madeCells #[.int .i64 0] 1160) 3)) := by
  have := run_make_row' (P := Try.prog) 27 3 (.int .i64 0) 8 Try.underlying27 info_int rfl .i64 .i64 1160 (by omega) (by omega) w
  simpa using this

section
variable {w u v : World} {a : Option Addr} {n cap p : Nat} {inc : Int} {zs : List Int} {S : Nat} {G : Int} {lb A B k : Nat}
/-- What stands while the parts of a curve are computed: its box, the result's. -/
structure DX (w : World) (a : Option Addr) (n cap p : Nat) (inc : Int) (zs : List Int) (u : World) : Prop where
  cur : Cur3 u w.heap.size (.slice a n cap) (.int .i64 p) (.int .i64 inc)
  res : Cur3 u (w.heap.size + 1) (.slice none 0 0) (.int .i64 0) (.int .i64 0)
  row : RowZ u a n cap zs
  below : Below w.heap.size w u
theorem DX.call (h : DX w a n cap p inc zs u) (hb : Below u.heap.size u v) : DX w a n cap p inc zs v := ⟨h.cur.below hb, h.res.below hb, h.row.under hb, h.below.trans (hb.mono h.below.size)⟩
theorem dx_start (h : RowZ w a n cap zs) (hW : (w.alloc (.cells #[.slice a n cap, .int .i64 p, .int .i64 inc] 38)).alloc (.cells #[.slice none 0 0, .int .i64 0, .int .i64 0] 121) = u) : DX w a n cap p inc zs u ∧ u.heap.size = w.heap.size + 2 := by
  subst hW
  have hB : Below w.heap.size w ((w.alloc (.cells #[.slice a n cap, .int .i64 p, .int .i64 inc] 38)).alloc (.cells #[.slice none 0 0, .int .i64 0, .int .i64 0] 121)) := ((Below.refl _ _).alloc (Nat.le_refl _) _).alloc (by simp) _
  exact ⟨⟨(Cur3.new w _ _ _ _).alloc _, Cur3.new2 w _ _ _ _ _, h.under hB, hB⟩, by simp⟩
abbrev DXS (w : World) (a : Option Addr) (n cap p : Nat) (inc : Int) (zs : List Int) (u : World) : Prop :=
  u.cell? ⟨w.heap.size, 0, none⟩ = some (.slice a n cap) ∧ u.cell? ⟨w.heap.size, 1, none⟩ = some (.int .i64 p) ∧ u.cell? ⟨w.heap.size, 2, none⟩ = some (.int .i64 inc) ∧ Hid (DX w a n cap p inc zs u)
theorem dxs_of (h : DX w a n cap p inc zs u) : DXS w a n cap p inc zs u := ⟨h.cur.c0, h.cur.c1, h.cur.c2, h⟩
/-- The part's block is filled. -/
structure DY (w : World) (a : Option Addr) (n cap p : Nat) (inc : Int) (zs : List Int) (S : Nat) (G : Int) (lb A : Nat) (u : World) : Prop where
  dx : DX w a n cap p inc zs u
  lst : RowF u lb 1160 (fun _ => 0)
  prt : Cur3 u A (.slice (some ⟨lb, 0, none⟩) 1160 1160) (.int .i64 S) (.int .i64 G)
  ne : lb ≠ A
  l1 : w.heap.size + 1 < lb
  l2 : w.heap.size + 1 < A
/-- The list is filled up to k. -/
structure DZ (w : World) (a : Option Addr) (n cap p : Nat) (inc : Int) (zs : List Int) (S : Nat) (G : Int) (lb A B k : Nat) (u : World) : Prop where
  lst : RowF u lb 1160 (fun i => if i < k then atC zs p inc i else 0)
  prt : Cur3 u A (.slice (some ⟨lb, 0, none⟩) 1160 1160) (.int .i64 S) (.int .i64 G)
  cl : ClosP u B a n cap zs p inc
  res : Cur3 u (w.heap.size + 1) (.slice none 0 0) (.int .i64 0) (.int .i64 0)
  far : Far B a n lb
  ne : lb ≠ A
  l1 : w.heap.size + 1 < lb
  l2 : w.heap.size + 1 < A
  below : Below w.heap.size w u
theorem DZ.call (h : DZ w a n cap p inc zs S G lb A B k u) (hb : Below u.heap.size u v) : DZ w a n cap p inc zs S G lb A B k v :=
  ⟨h.lst.under hb, h.prt.below hb, h.cl.under hb, h.res.below hb, h.far, h.ne, h.l1, h.l2, h.below.trans (hb.mono h.below.size)⟩
theorem DZ.step (h : DZ w a n cap p inc zs S G lb A B k u) (hk : k < 1160) {x : Int} (hx : atC zs p inc k = x) : DZ w a n cap p inc zs S G lb A B (k + 1) (u.setCell ⟨lb, k, none⟩ (.int .i64 x)) := by
  have hl := h.l1
  refine ⟨(h.lst.set hk x).congr fun i hi => ?_, h.prt.other (fun e => h.ne e.symm) _ _, h.cl.other h.far _ _, h.res.other (by omega) _ _, h.far, h.ne, h.l1, h.l2, h.below.setCell (p := ⟨lb, k, none⟩) (by show w.heap.size ≤ lb; omega) _⟩
  by_cases e : i = k
  · subst e; rw [if_pos rfl, if_pos (Nat.lt_succ_self _)]; exact hx.symm
  · rw [if_neg e]
    by_cases e2 : i < k
    · rw [if_pos e2, if_pos (by omega)]
    · rw [if_neg e2, if_neg (by omega)]
end
/-- The part of a curve in a convolution. -/
def GivesPart (zs : List Int) (p : Nat) (inc : Int) (S : Nat) (G : Int) (w : World) (e : Ending) (w' : World) : Prop :=
  ∃ lb : Nat, e = .returned (curV (some ⟨lb, 0, none⟩) 1160 1160 S G) ∧ Below w.heap.size w w' ∧ w.heap.size ≤ lb ∧ RowF w' lb 1160 (atC zs p inc)

theorem dy_put {w u : World} {a : Option Addr} {n cap p : Nat} {inc : Int} {zs : List Int} {S : Nat} {G : Int} {lb A : Nat} (hfar : ∀ x, a = some x → 1 ≤ n → x.block < w.heap.size) (h : DX w a n cap p inc zs u) (h1 : RowF u lb 1160 (fun _ => 0) ∧ w.heap.size + 1 < lb) (h2 : Cur3 u A (.slice none 0 0) (.int .i64 0) (.int .i64 0) ∧ w.heap.size + 1 < A) (hne : lb ≠ A) :
    DY w a n cap p inc zs S G lb A (((u.setCell ⟨A, 0, none⟩ (.slice (some ⟨lb, 0, none⟩) 1160 1160)).setCell ⟨A, 1, none⟩ (.int .i64 S)).setCell ⟨A, 2, none⟩ (.int .i64 G)) := by
  have l2 := h2.2
  have hr : ∀ x, a = some x → 1 ≤ n → x.block ≠ A := fun x hx hn => by have := hfar x hx hn; omega
  exact ⟨⟨((h.cur.other (by omega) _ _).other (by omega) _ _).other (by omega) _ _, ((h.res.other (by omega) _ _).other (by omega) _ _).other (by omega) _ _, ((h.row.store hr _ _).store hr _ _).store hr _ _, below_set3 h.below (by omega) _ _ _⟩,
    ((h1.1.other hne _ _).other hne _ _).other hne _ _, h2.1.set _ _ _, hne, h1.2, l2⟩

theorem dz_start {w u v : World} {a : Option Addr} {n cap p : Nat} {inc : Int} {zs : List Int} {S : Nat} {G : Int} {lb A B : Nat} (hfar : ∀ x, a = some x → 1 ≤ n → x.block < w.heap.size) (h : DY w a n cap p inc zs S G lb A u) (hb : Below u.heap.size u v) (hB : u.heap.size ≤ B) (hcl : ClosP v B a n cap zs p inc) : DZ w a n cap p inc zs S G lb A B 0 v := by
  have l1 := h.l1
  have hlt := h.lst.lt
  exact ⟨(h.lst.under hb).congr fun i hi => by rw [if_neg (Nat.not_lt_zero _)], h.prt.below hb, hcl, h.dx.res.below hb, ⟨by omega, by omega, fun x hx hn => by have := hfar x hx hn; omega⟩, h.ne, h.l1, h.l2, h.dx.below.trans (hb.mono h.dx.below.size)⟩

set_option maxRecDepth 100000 in
set_option maxHeartbeats 6400000 in
theorem described_ok (a : Option Addr) (n cap : Nat) (zs : List Int) (p : Nat) (inc : Int) (g : Good zs p inc) (hn : NormC zs p inc zs p inc) (S : Nat) (hs : zs.length = S + p) (L : Nat) (hL : L ≤ 120) (G : Int) (hG : growI zs p inc L = G) (w : World) (h : RowZ w a n cap zs) :
    Calls Try.prog 143 #[curV a n cap p inc, .int .i64 L] w (GivesPart zs p inc S G w) := by
  have hmk := make_1160
  obtain ⟨W, hW⟩ : ∃ W, (w.alloc (.cells #[.slice a n cap, .int .i64 p, .int .i64 inc] 38)).alloc (.cells #[.slice none 0 0, .int .i64 0, .int .i64 0] 121) = W := ⟨_, rfl⟩
  obtain ⟨t0, hz⟩ := dx_start (p := p) (inc := inc) h hW
  have T0 := Lib.hid (And.intro (t0.call (Below.refl _ _).drew) (show w.heap.size + 1 < W.drew.heap.size by show _ < W.heap.size; omega))
  have FAR := Lib.hid h.far
  have G0 := Lib.hid g
  have HN := Lib.hid hn
  have HS := Lib.hid hs
  have HL := Lib.hid hL
  have HGR := Lib.hid hG
  have HW := Lib.hid hW
  obtain ⟨c0, c1, c2, f0, f1, f2⟩ := t0.cur
  clear t0 hz h g hn hs hL hG hW
  go_enter Try.func143, Try.ntmps143
  go_upto_region 1 with fail
  try rw [HW.out]
  go_cut [5] (fun s5 wx => ∃ A lb : Nat, s5 = .pointer (some ⟨A, 0, none⟩) ∧ Hid (DY w a n cap p inc zs S G lb A wx))
  case first =>
    clear c0 c1 c2 f0 f1 f2
    refine wp_region_keeps (fun u => DXS w a n cap p inc zs u) 8 1 (by kernel_rfl) (by kernel_rfl) (dxs_of T0.out.1) (fun hHeld0 => ?_)
    refine wpAnyK_take (i := 1) (v := ?_) rfl (by kernel_rfl) (fun _ _ _ h => h) (Or.inl ⟨by rfl, ?_⟩) (by assumption) ?_
    rotate_left
    · (intro w hSw; (try dsimp only at hSw); go_simp; try with_reducible rfl)
    try simp only [Act.put, List.getElem_toArray, List.getElem_cons_zero, List.getElem_cons_succ, List.setIfInBounds_toArray, List.set_cons_zero, List.set_cons_succ]
    refine wpAnyK_take (i := 3) (v := ?_) rfl (by kernel_rfl) (fun _ _ _ h => h) (Or.inl ⟨by rfl, ?_⟩) (by assumption) ?_
    rotate_left
    · (intro w hSw; (try dsimp only at hSw); go_simp; try with_reducible rfl)
    try simp only [Act.put, List.getElem_toArray, List.getElem_cons_zero, List.getElem_cons_succ, List.setIfInBounds_toArray, List.set_cons_zero, List.set_cons_succ]
    refine wpAnyK_take (i := 4) (v := ?_) rfl (by kernel_rfl) (fun _ _ _ h => h) (Or.inl ⟨by rfl, ?_⟩) (by assumption) ?_
    rotate_left
    · (intro w hSw; (try dsimp only at hSw); go_simp; try with_reducible rfl)
    try simp only [Act.put, List.getElem_toArray, List.getElem_cons_zero, List.getElem_cons_succ, List.setIfInBounds_toArray, List.set_cons_zero, List.set_cons_succ]
    refine wpAnyK_three (i := 0) (j := 2) (k := 7) rfl rfl rfl (by kernel_rfl) (fun K hK => ?_) (fun K hK => ?_) (fun K hK => ?_)
    · go_simp
      obtain ⟨ux1, hv1⟩ : ∃ W', (W.alloc (.cells (madeCells #[.int .i64 0] 1160) 3)).drew = W' := ⟨_, rfl⟩
      have hux1 : W.drew.alloc (.cells (madeCells #[.int .i64 0] 1160) 3) = ux1 := hv1
      have hbx1 : Below W.drew.heap.size W.drew ux1 := by rw [← hux1]; exact (Below.refl _ _).alloc (Nat.le_refl _) _
      have N1 := Lib.hid (show RowF ux1 W.heap.size 1160 (fun _ => 0) ∧ w.heap.size + 1 < W.heap.size from ⟨by rw [← hux1]; exact RowF.made W.drew 1160, T0.out.2⟩)
      rw [hv1]
      clear hux1 hv1
      have Tx1 := Lib.hid (And.intro (T0.out.1.call hbx1) (show w.heap.size + 1 < ux1.heap.size from Nat.lt_of_lt_of_le T0.out.2 hbx1.size))
      refine hK.out _ _ (dxs_of Tx1.out.1) (fun hHeld1 => ?_)
      clear hK K hHeld0 hbx1
      try simp only [Act.put, List.getElem_toArray, List.getElem_cons_zero, List.getElem_cons_succ, List.setIfInBounds_toArray, List.set_cons_zero, List.set_cons_succ]
      refine wpAnyK_two (i := 2) (j := 7) rfl rfl (by kernel_rfl) (fun K hK => ?_) (fun K hK => ?_)
      · go_simp
        with_reducible refine (start_i a n cap zs p inc G0.out HN.out S HS.out _ Tx1.out.1.row).mono ?_
        rintro e ux2 ⟨rfl, hbx2⟩
        have Tx2 := Lib.hid (And.intro (Tx1.out.1.call hbx2) (show w.heap.size + 1 < ux2.heap.size from Nat.lt_of_lt_of_le Tx1.out.2 hbx2.size))
        have N1_2 := Lib.hid (And.intro (N1.out.1.under hbx2) N1.out.2)
        refine hK.out _ _ (dxs_of Tx2.out.1) (fun hHeld2 => ?_)
        clear hK K hHeld1 hbx2
        try simp only [Act.put, List.getElem_toArray, List.getElem_cons_zero, List.getElem_cons_succ, List.setIfInBounds_toArray, List.set_cons_zero, List.set_cons_succ]
        refine wpAnyK_two (i := 5) (j := 7) rfl rfl (by kernel_rfl) (fun K hK => ?_) (fun K hK => ?_)
        · go_simp
          with_reducible refine (growth_any a n cap zs p inc G0.out L HL.out G HGR.out _ Tx2.out.1.row).mono ?_
          rintro e ux3 ⟨rfl, hbx3⟩
          have Tx3 := Lib.hid (And.intro (Tx2.out.1.call hbx3) (show w.heap.size + 1 < ux3.heap.size from Nat.lt_of_lt_of_le Tx2.out.2 hbx3.size))
          have N1_2_3 := Lib.hid (And.intro (N1_2.out.1.under hbx3) N1_2.out.2)
          refine hK.out _ _ (dxs_of Tx3.out.1) (fun hHeld3 => ?_)
          clear hK K hHeld2 hbx3
          try simp only [Act.put, List.getElem_toArray, List.getElem_cons_zero, List.getElem_cons_succ, List.setIfInBounds_toArray, List.set_cons_zero, List.set_cons_succ]
          refine wpAnyK_take (i := 6) (v := ?_) rfl (by kernel_rfl) (fun _ _ _ h => h) (Or.inl ⟨by rfl, ?_⟩) (by assumption) ?_
          rotate_left
          · (intro w hSw; (try dsimp only at hSw); go_simp; try with_reducible rfl)
          try simp only [Act.put, List.getElem_toArray, List.getElem_cons_zero, List.getElem_cons_succ, List.setIfInBounds_toArray, List.set_cons_zero, List.set_cons_succ]
          refine wpAnyK_step (i := 7) rfl (by kernel_rfl) (fun K hK => ?_)
          go_simp
          obtain ⟨ux4, hux4⟩ : ∃ W', ux3.alloc (.cells #[.slice none 0 0, .int .i64 0, .int .i64 0] 121) = W' := ⟨_, rfl⟩
          have hv4 := hux4
          have hbx4 : Below ux3.heap.size ux3 ux4 := by rw [← hux4]; exact (Below.refl _ _).alloc (Nat.le_refl _) _
          have NE := Lib.hid (Nat.ne_of_lt N1_2_3.out.1.lt)
          have N4 := Lib.hid (show Cur3 ux4 ux3.heap.size (.slice none 0 0) (.int .i64 0) (.int .i64 0) ∧ w.heap.size + 1 < ux3.heap.size from ⟨by rw [← hux4]; exact Cur3.new ux3 _ _ _ _, Tx3.out.2⟩)
          rw [hv4]
          clear hux4 hv4
          have Tx4 := Lib.hid (And.intro (Tx3.out.1.call hbx4) (show w.heap.size + 1 < ux4.heap.size from Nat.lt_of_lt_of_le Tx3.out.2 hbx4.size))
          have N1_2_3_4 := Lib.hid (And.intro (N1_2_3.out.1.under hbx4) N1_2_3.out.2)
          refine hK.out _ _ (dxs_of Tx4.out.1) (fun hHeld4 => ?_)
          clear hK K hHeld3 hbx4
          try simp only [Act.put, List.getElem_toArray, List.getElem_cons_zero, List.getElem_cons_succ, List.setIfInBounds_toArray, List.set_cons_zero, List.set_cons_succ]
          refine wpAnyK_done (by kernel_rfl) ?_
          simp only [List.drop_succ_cons, List.drop_zero]
          have HQ := Lib.hid (show DY w a n cap p inc zs S G W.heap.size ux3.heap.size (((ux4.setCell ⟨ux3.heap.size, 0, none⟩ (.slice (some ⟨W.heap.size, 0, none⟩) 1160 1160)).setCell ⟨ux3.heap.size, 1, none⟩ (.int .i64 S)).setCell ⟨ux3.heap.size, 2, none⟩ (.int .i64 G)) from dy_put FAR.out Tx4.out.1 N1_2_3_4.out N4.out (by first | exact NE.out | exact NE.out.symm))
          obtain ⟨c0, c1, c2, f0, f1, f2⟩ := N4.out.1
          clear hHeld4
          go_wp2_with fail
          go_meet
          exact ⟨ux3.heap.size, W.heap.size, rfl, HQ⟩
        · go_simp
          obtain ⟨ux5, hux5⟩ : ∃ W', ux2.alloc (.cells #[.slice none 0 0, .int .i64 0, .int .i64 0] 121) = W' := ⟨_, rfl⟩
          have hv5 := hux5
          have hbx5 : Below ux2.heap.size ux2 ux5 := by rw [← hux5]; exact (Below.refl _ _).alloc (Nat.le_refl _) _
          have NE := Lib.hid (Nat.ne_of_lt N1_2.out.1.lt)
          have N5 := Lib.hid (show Cur3 ux5 ux2.heap.size (.slice none 0 0) (.int .i64 0) (.int .i64 0) ∧ w.heap.size + 1 < ux2.heap.size from ⟨by rw [← hux5]; exact Cur3.new ux2 _ _ _ _, Tx2.out.2⟩)
          rw [hv5]
          clear hux5 hv5
          have Tx5 := Lib.hid (And.intro (Tx2.out.1.call hbx5) (show w.heap.size + 1 < ux5.heap.size from Nat.lt_of_lt_of_le Tx2.out.2 hbx5.size))
          have N1_2_5 := Lib.hid (And.intro (N1_2.out.1.under hbx5) N1_2.out.2)
          refine hK.out _ _ (dxs_of Tx5.out.1) (fun hHeld5 => ?_)
          clear hK K hHeld2 hbx5
          try simp only [Act.put, List.getElem_toArray, List.getElem_cons_zero, List.getElem_cons_succ, List.setIfInBounds_toArray, List.set_cons_zero, List.set_cons_succ]
          refine wpAnyK_step (i := 5) rfl (by kernel_rfl) (fun K hK => ?_)
          go_simp
          with_reducible refine (growth_any a n cap zs p inc G0.out L HL.out G HGR.out _ Tx5.out.1.row).mono ?_
          rintro e ux6 ⟨rfl, hbx6⟩
          have Tx6 := Lib.hid (And.intro (Tx5.out.1.call hbx6) (show w.heap.size + 1 < ux6.heap.size from Nat.lt_of_lt_of_le Tx5.out.2 hbx6.size))
          have N1_2_5_6 := Lib.hid (And.intro (N1_2_5.out.1.under hbx6) N1_2_5.out.2)
          have N5_6 := Lib.hid (And.intro (N5.out.1.below hbx6) N5.out.2)
          refine hK.out _ _ (dxs_of Tx6.out.1) (fun hHeld6 => ?_)
          clear hK K hHeld5 hbx6
          try simp only [Act.put, List.getElem_toArray, List.getElem_cons_zero, List.getElem_cons_succ, List.setIfInBounds_toArray, List.set_cons_zero, List.set_cons_succ]
          refine wpAnyK_take (i := 6) (v := ?_) rfl (by kernel_rfl) (fun _ _ _ h => h) (Or.inl ⟨by rfl, ?_⟩) (by assumption) ?_
          rotate_left
          · (intro w hSw; (try dsimp only at hSw); go_simp; try with_reducible rfl)
          try simp only [Act.put, List.getElem_toArray, List.getElem_cons_zero, List.getElem_cons_succ, List.setIfInBounds_toArray, List.set_cons_zero, List.set_cons_succ]
          refine wpAnyK_done (by kernel_rfl) ?_
          simp only [List.drop_succ_cons, List.drop_zero]
          have HQ := Lib.hid (show DY w a n cap p inc zs S G W.heap.size ux2.heap.size (((ux6.setCell ⟨ux2.heap.size, 0, none⟩ (.slice (some ⟨W.heap.size, 0, none⟩) 1160 1160)).setCell ⟨ux2.heap.size, 1, none⟩ (.int .i64 S)).setCell ⟨ux2.heap.size, 2, none⟩ (.int .i64 G)) from dy_put FAR.out Tx6.out.1 N1_2_5_6.out N5_6.out (by first | exact NE.out | exact NE.out.symm))
          obtain ⟨c0, c1, c2, f0, f1, f2⟩ := N5_6.out.1
          clear hHeld6
          go_wp2_with fail
          go_meet
          exact ⟨ux2.heap.size, W.heap.size, rfl, HQ⟩
      · go_simp
        obtain ⟨ux7, hux7⟩ : ∃ W', ux1.alloc (.cells #[.slice none 0 0, .int .i64 0, .int .i64 0] 121) = W' := ⟨_, rfl⟩
        have hv7 := hux7
        have hbx7 : Below ux1.heap.size ux1 ux7 := by rw [← hux7]; exact (Below.refl _ _).alloc (Nat.le_refl _) _
        have NE := Lib.hid (Nat.ne_of_lt N1.out.1.lt)
        have N7 := Lib.hid (show Cur3 ux7 ux1.heap.size (.slice none 0 0) (.int .i64 0) (.int .i64 0) ∧ w.heap.size + 1 < ux1.heap.size from ⟨by rw [← hux7]; exact Cur3.new ux1 _ _ _ _, Tx1.out.2⟩)
        rw [hv7]
        clear hux7 hv7
        have Tx7 := Lib.hid (And.intro (Tx1.out.1.call hbx7) (show w.heap.size + 1 < ux7.heap.size from Nat.lt_of_lt_of_le Tx1.out.2 hbx7.size))
        have N1_7 := Lib.hid (And.intro (N1.out.1.under hbx7) N1.out.2)
        refine hK.out _ _ (dxs_of Tx7.out.1) (fun hHeld7 => ?_)
        clear hK K hHeld1 hbx7
        try simp only [Act.put, List.getElem_toArray, List.getElem_cons_zero, List.getElem_cons_succ, List.setIfInBounds_toArray, List.set_cons_zero, List.set_cons_succ]
        refine wpAnyK_step (i := 2) rfl (by kernel_rfl) (fun K hK => ?_)
        go_simp
        with_reducible refine (start_i a n cap zs p inc G0.out HN.out S HS.out _ Tx7.out.1.row).mono ?_
        rintro e ux8 ⟨rfl, hbx8⟩
        have Tx8 := Lib.hid (And.intro (Tx7.out.1.call hbx8) (show w.heap.size + 1 < ux8.heap.size from Nat.lt_of_lt_of_le Tx7.out.2 hbx8.size))
        have N1_7_8 := Lib.hid (And.intro (N1_7.out.1.under hbx8) N1_7.out.2)
        have N7_8 := Lib.hid (And.intro (N7.out.1.below hbx8) N7.out.2)
        refine hK.out _ _ (dxs_of Tx8.out.1) (fun hHeld8 => ?_)
        clear hK K hHeld7 hbx8
        try simp only [Act.put, List.getElem_toArray, List.getElem_cons_zero, List.getElem_cons_succ, List.setIfInBounds_toArray, List.set_cons_zero, List.set_cons_succ]
        refine wpAnyK_step (i := 5) rfl (by kernel_rfl) (fun K hK => ?_)
        go_simp
        with_reducible refine (growth_any a n cap zs p inc G0.out L HL.out G HGR.out _ Tx8.out.1.row).mono ?_
        rintro e ux9 ⟨rfl, hbx9⟩
        have Tx9 := Lib.hid (And.intro (Tx8.out.1.call hbx9) (show w.heap.size + 1 < ux9.heap.size from Nat.lt_of_lt_of_le Tx8.out.2 hbx9.size))
        have N1_7_8_9 := Lib.hid (And.intro (N1_7_8.out.1.under hbx9) N1_7_8.out.2)
        have N7_8_9 := Lib.hid (And.intro (N7_8.out.1.below hbx9) N7_8.out.2)
        refine hK.out _ _ (dxs_of Tx9.out.1) (fun hHeld9 => ?_)
        clear hK K hHeld8 hbx9
        try simp only [Act.put, List.getElem_toArray, List.getElem_cons_zero, List.getElem_cons_succ, List.setIfInBounds_toArray, List.set_cons_zero, List.set_cons_succ]
        refine wpAnyK_take (i := 6) (v := ?_) rfl (by kernel_rfl) (fun _ _ _ h => h) (Or.inl ⟨by rfl, ?_⟩) (by assumption) ?_
        rotate_left
        · (intro w hSw; (try dsimp only at hSw); go_simp; try with_reducible rfl)
        try simp only [Act.put, List.getElem_toArray, List.getElem_cons_zero, List.getElem_cons_succ, List.setIfInBounds_toArray, List.set_cons_zero, List.set_cons_succ]
        refine wpAnyK_done (by kernel_rfl) ?_
        simp only [List.drop_succ_cons, List.drop_zero]
        have HQ := Lib.hid (show DY w a n cap p inc zs S G W.heap.size ux1.heap.size (((ux9.setCell ⟨ux1.heap.size, 0, none⟩ (.slice (some ⟨W.heap.size, 0, none⟩) 1160 1160)).setCell ⟨ux1.heap.size, 1, none⟩ (.int .i64 S)).setCell ⟨ux1.heap.size, 2, none⟩ (.int .i64 G)) from dy_put FAR.out Tx9.out.1 N1_7_8_9.out N7_8_9.out (by first | exact NE.out | exact NE.out.symm))
        obtain ⟨c0, c1, c2, f0, f1, f2⟩ := N7_8_9.out.1
        clear hHeld9
        go_wp2_with fail
        go_meet
        exact ⟨ux1.heap.size, W.heap.size, rfl, HQ⟩
    · go_simp
      with_reducible refine (start_i a n cap zs p inc G0.out HN.out S HS.out _ T0.out.1.row).mono ?_
      rintro e ux10 ⟨rfl, hbx10⟩
      have Tx10 := Lib.hid (And.intro (T0.out.1.call hbx10) (show w.heap.size + 1 < ux10.heap.size from Nat.lt_of_lt_of_le T0.out.2 hbx10.size))
      refine hK.out _ _ (dxs_of Tx10.out.1) (fun hHeld10 => ?_)
      clear hK K hHeld0 hbx10
      try simp only [Act.put, List.getElem_toArray, List.getElem_cons_zero, List.getElem_cons_succ, List.setIfInBounds_toArray, List.set_cons_zero, List.set_cons_succ]
      refine wpAnyK_three (i := 0) (j := 5) (k := 7) rfl rfl rfl (by kernel_rfl) (fun K hK => ?_) (fun K hK => ?_) (fun K hK => ?_)
      · go_simp
        obtain ⟨ux11, hux11⟩ : ∃ W', ux10.alloc (.cells (madeCells #[.int .i64 0] 1160) 3) = W' := ⟨_, rfl⟩
        have hv11 := hux11
        have hbx11 : Below ux10.heap.size ux10 ux11 := by rw [← hux11]; exact (Below.refl _ _).alloc (Nat.le_refl _) _
        have N11 := Lib.hid (show RowF ux11 ux10.heap.size 1160 (fun _ => 0) ∧ w.heap.size + 1 < ux10.heap.size from ⟨by rw [← hux11]; exact RowF.made ux10 1160, Tx10.out.2⟩)
        rw [hv11]
        clear hux11 hv11
        have Tx11 := Lib.hid (And.intro (Tx10.out.1.call hbx11) (show w.heap.size + 1 < ux11.heap.size from Nat.lt_of_lt_of_le Tx10.out.2 hbx11.size))
        refine hK.out _ _ (dxs_of Tx11.out.1) (fun hHeld11 => ?_)
        clear hK K hHeld10 hbx11
        try simp only [Act.put, List.getElem_toArray, List.getElem_cons_zero, List.getElem_cons_succ, List.setIfInBounds_toArray, List.set_cons_zero, List.set_cons_succ]
        refine wpAnyK_two (i := 5) (j := 7) rfl rfl (by kernel_rfl) (fun K hK => ?_) (fun K hK => ?_)
        · go_simp
          with_reducible refine (growth_any a n cap zs p inc G0.out L HL.out G HGR.out _ Tx11.out.1.row).mono ?_
          rintro e ux12 ⟨rfl, hbx12⟩
          have Tx12 := Lib.hid (And.intro (Tx11.out.1.call hbx12) (show w.heap.size + 1 < ux12.heap.size from Nat.lt_of_lt_of_le Tx11.out.2 hbx12.size))
          have N11_12 := Lib.hid (And.intro (N11.out.1.under hbx12) N11.out.2)
          refine hK.out _ _ (dxs_of Tx12.out.1) (fun hHeld12 => ?_)
          clear hK K hHeld11 hbx12
          try simp only [Act.put, List.getElem_toArray, List.getElem_cons_zero, List.getElem_cons_succ, List.setIfInBounds_toArray, List.set_cons_zero, List.set_cons_succ]
          refine wpAnyK_take (i := 6) (v := ?_) rfl (by kernel_rfl) (fun _ _ _ h => h) (Or.inl ⟨by rfl, ?_⟩) (by assumption) ?_
          rotate_left
          · (intro w hSw; (try dsimp only at hSw); go_simp; try with_reducible rfl)
          try simp only [Act.put, List.getElem_toArray, List.getElem_cons_zero, List.getElem_cons_succ, List.setIfInBounds_toArray, List.set_cons_zero, List.set_cons_succ]
          refine wpAnyK_step (i := 7) rfl (by kernel_rfl) (fun K hK => ?_)
          go_simp
          obtain ⟨ux13, hux13⟩ : ∃ W', ux12.alloc (.cells #[.slice none 0 0, .int .i64 0, .int .i64 0] 121) = W' := ⟨_, rfl⟩
          have hv13 := hux13
          have hbx13 : Below ux12.heap.size ux12 ux13 := by rw [← hux13]; exact (Below.refl _ _).alloc (Nat.le_refl _) _
          have NE := Lib.hid (Nat.ne_of_lt N11_12.out.1.lt)
          have N13 := Lib.hid (show Cur3 ux13 ux12.heap.size (.slice none 0 0) (.int .i64 0) (.int .i64 0) ∧ w.heap.size + 1 < ux12.heap.size from ⟨by rw [← hux13]; exact Cur3.new ux12 _ _ _ _, Tx12.out.2⟩)
          rw [hv13]
          clear hux13 hv13
          have Tx13 := Lib.hid (And.intro (Tx12.out.1.call hbx13) (show w.heap.size + 1 < ux13.heap.size from Nat.lt_of_lt_of_le Tx12.out.2 hbx13.size))
          have N11_12_13 := Lib.hid (And.intro (N11_12.out.1.under hbx13) N11_12.out.2)
          refine hK.out _ _ (dxs_of Tx13.out.1) (fun hHeld13 => ?_)
          clear hK K hHeld12 hbx13
          try simp only [Act.put, List.getElem_toArray, List.getElem_cons_zero, List.getElem_cons_succ, List.setIfInBounds_toArray, List.set_cons_zero, List.set_cons_succ]
          refine wpAnyK_done (by kernel_rfl) ?_
          simp only [List.drop_succ_cons, List.drop_zero]
          have HQ := Lib.hid (show DY w a n cap p inc zs S G ux10.heap.size ux12.heap.size (((ux13.setCell ⟨ux12.heap.size, 0, none⟩ (.slice (some ⟨ux10.heap.size, 0, none⟩) 1160 1160)).setCell ⟨ux12.heap.size, 1, none⟩ (.int .i64 S)).setCell ⟨ux12.heap.size, 2, none⟩ (.int .i64 G)) from dy_put FAR.out Tx13.out.1 N11_12_13.out N13.out (by first | exact NE.out | exact NE.out.symm))
          obtain ⟨c0, c1, c2, f0, f1, f2⟩ := N13.out.1
          clear hHeld13
          go_wp2_with fail
          go_meet
          exact ⟨ux12.heap.size, ux10.heap.size, rfl, HQ⟩
        · go_simp
          obtain ⟨ux14, hux14⟩ : ∃ W', ux11.alloc (.cells #[.slice none 0 0, .int .i64 0, .int .i64 0] 121) = W' := ⟨_, rfl⟩
          have hv14 := hux14
          have hbx14 : Below ux11.heap.size ux11 ux14 := by rw [← hux14]; exact (Below.refl _ _).alloc (Nat.le_refl _) _
          have NE := Lib.hid (Nat.ne_of_lt N11.out.1.lt)
          have N14 := Lib.hid (show Cur3 ux14 ux11.heap.size (.slice none 0 0) (.int .i64 0) (.int .i64 0) ∧ w.heap.size + 1 < ux11.heap.size from ⟨by rw [← hux14]; exact Cur3.new ux11 _ _ _ _, Tx11.out.2⟩)
          rw [hv14]
          clear hux14 hv14
          have Tx14 := Lib.hid (And.intro (Tx11.out.1.call hbx14) (show w.heap.size + 1 < ux14.heap.size from Nat.lt_of_lt_of_le Tx11.out.2 hbx14.size))
          have N11_14 := Lib.hid (And.intro (N11.out.1.under hbx14) N11.out.2)
          refine hK.out _ _ (dxs_of Tx14.out.1) (fun hHeld14 => ?_)
          clear hK K hHeld11 hbx14
          try simp only [Act.put, List.getElem_toArray, List.getElem_cons_zero, List.getElem_cons_succ, List.setIfInBounds_toArray, List.set_cons_zero, List.set_cons_succ]
          refine wpAnyK_step (i := 5) rfl (by kernel_rfl) (fun K hK => ?_)
          go_simp
          with_reducible refine (growth_any a n cap zs p inc G0.out L HL.out G HGR.out _ Tx14.out.1.row).mono ?_
          rintro e ux15 ⟨rfl, hbx15⟩
          have Tx15 := Lib.hid (And.intro (Tx14.out.1.call hbx15) (show w.heap.size + 1 < ux15.heap.size from Nat.lt_of_lt_of_le Tx14.out.2 hbx15.size))
          have N11_14_15 := Lib.hid (And.intro (N11_14.out.1.under hbx15) N11_14.out.2)
          have N14_15 := Lib.hid (And.intro (N14.out.1.below hbx15) N14.out.2)
          refine hK.out _ _ (dxs_of Tx15.out.1) (fun hHeld15 => ?_)
          clear hK K hHeld14 hbx15
          try simp only [Act.put, List.getElem_toArray, List.getElem_cons_zero, List.getElem_cons_succ, List.setIfInBounds_toArray, List.set_cons_zero, List.set_cons_succ]
          refine wpAnyK_take (i := 6) (v := ?_) rfl (by kernel_rfl) (fun _ _ _ h => h) (Or.inl ⟨by rfl, ?_⟩) (by assumption) ?_
          rotate_left
          · (intro w hSw; (try dsimp only at hSw); go_simp; try with_reducible rfl)
          try simp only [Act.put, List.getElem_toArray, List.getElem_cons_zero, List.getElem_cons_succ, List.setIfInBounds_toArray, List.set_cons_zero, List.set_cons_succ]
          refine wpAnyK_done (by kernel_rfl) ?_
          simp only [List.drop_succ_cons, List.drop_zero]
          have HQ := Lib.hid (show DY w a n cap p inc zs S G ux10.heap.size ux11.heap.size (((ux15.setCell ⟨ux11.heap.size, 0, none⟩ (.slice (some ⟨ux10.heap.size, 0, none⟩) 1160 1160)).setCell ⟨ux11.heap.size, 1, none⟩ (.int .i64 S)).setCell ⟨ux11.heap.size, 2, none⟩ (.int .i64 G)) from dy_put FAR.out Tx15.out.1 N11_14_15.out N14_15.out (by first | exact NE.out | exact NE.out.symm))
          obtain ⟨c0, c1, c2, f0, f1, f2⟩ := N14_15.out.1
          clear hHeld15
          go_wp2_with fail
          go_meet
          exact ⟨ux11.heap.size, ux10.heap.size, rfl, HQ⟩
      · go_simp
        with_reducible refine (growth_any a n cap zs p inc G0.out L HL.out G HGR.out _ Tx10.out.1.row).mono ?_
        rintro e ux16 ⟨rfl, hbx16⟩
        have Tx16 := Lib.hid (And.intro (Tx10.out.1.call hbx16) (show w.heap.size + 1 < ux16.heap.size from Nat.lt_of_lt_of_le Tx10.out.2 hbx16.size))
        refine hK.out _ _ (dxs_of Tx16.out.1) (fun hHeld16 => ?_)
        clear hK K hHeld10 hbx16
        try simp only [Act.put, List.getElem_toArray, List.getElem_cons_zero, List.getElem_cons_succ, List.setIfInBounds_toArray, List.set_cons_zero, List.set_cons_succ]
        refine wpAnyK_two (i := 0) (j := 7) rfl rfl (by kernel_rfl) (fun K hK => ?_) (fun K hK => ?_)
        · go_simp
          obtain ⟨ux17, hux17⟩ : ∃ W', ux16.alloc (.cells (madeCells #[.int .i64 0] 1160) 3) = W' := ⟨_, rfl⟩
          have hv17 := hux17
          have hbx17 : Below ux16.heap.size ux16 ux17 := by rw [← hux17]; exact (Below.refl _ _).alloc (Nat.le_refl _) _
          have N17 := Lib.hid (show RowF ux17 ux16.heap.size 1160 (fun _ => 0) ∧ w.heap.size + 1 < ux16.heap.size from ⟨by rw [← hux17]; exact RowF.made ux16 1160, Tx16.out.2⟩)
          rw [hv17]
          clear hux17 hv17
          have Tx17 := Lib.hid (And.intro (Tx16.out.1.call hbx17) (show w.heap.size + 1 < ux17.heap.size from Nat.lt_of_lt_of_le Tx16.out.2 hbx17.size))
          refine hK.out _ _ (dxs_of Tx17.out.1) (fun hHeld17 => ?_)
          clear hK K hHeld16 hbx17
          try simp only [Act.put, List.getElem_toArray, List.getElem_cons_zero, List.getElem_cons_succ, List.setIfInBounds_toArray, List.set_cons_zero, List.set_cons_succ]
          refine wpAnyK_take (i := 6) (v := ?_) rfl (by kernel_rfl) (fun _ _ _ h => h) (Or.inl ⟨by rfl, ?_⟩) (by assumption) ?_
          rotate_left
          · (intro w hSw; (try dsimp only at hSw); go_simp; try with_reducible rfl)
          try simp only [Act.put, List.getElem_toArray, List.getElem_cons_zero, List.getElem_cons_succ, List.setIfInBounds_toArray, List.set_cons_zero, List.set_cons_succ]
          refine wpAnyK_step (i := 7) rfl (by kernel_rfl) (fun K hK => ?_)
          go_simp
          obtain ⟨ux18, hux18⟩ : ∃ W', ux17.alloc (.cells #[.slice none 0 0, .int .i64 0, .int .i64 0] 121) = W' := ⟨_, rfl⟩
          have hv18 := hux18
          have hbx18 : Below ux17.heap.size ux17 ux18 := by rw [← hux18]; exact (Below.refl _ _).alloc (Nat.le_refl _) _
          have NE := Lib.hid (Nat.ne_of_lt N17.out.1.lt)
          have N18 := Lib.hid (show Cur3 ux18 ux17.heap.size (.slice none 0 0) (.int .i64 0) (.int .i64 0) ∧ w.heap.size + 1 < ux17.heap.size from ⟨by rw [← hux18]; exact Cur3.new ux17 _ _ _ _, Tx17.out.2⟩)
          rw [hv18]
          clear hux18 hv18
          have Tx18 := Lib.hid (And.intro (Tx17.out.1.call hbx18) (show w.heap.size + 1 < ux18.heap.size from Nat.lt_of_lt_of_le Tx17.out.2 hbx18.size))
          have N17_18 := Lib.hid (And.intro (N17.out.1.under hbx18) N17.out.2)
          refine hK.out _ _ (dxs_of Tx18.out.1) (fun hHeld18 => ?_)
          clear hK K hHeld17 hbx18
          try simp only [Act.put, List.getElem_toArray, List.getElem_cons_zero, List.getElem_cons_succ, List.setIfInBounds_toArray, List.set_cons_zero, List.set_cons_succ]
          refine wpAnyK_done (by kernel_rfl) ?_
          simp only [List.drop_succ_cons, List.drop_zero]
          have HQ := Lib.hid (show DY w a n cap p inc zs S G ux16.heap.size ux17.heap.size (((ux18.setCell ⟨ux17.heap.size, 0, none⟩ (.slice (some ⟨ux16.heap.size, 0, none⟩) 1160 1160)).setCell ⟨ux17.heap.size, 1, none⟩ (.int .i64 S)).setCell ⟨ux17.heap.size, 2, none⟩ (.int .i64 G)) from dy_put FAR.out Tx18.out.1 N17_18.out N18.out (by first | exact NE.out | exact NE.out.symm))
          obtain ⟨c0, c1, c2, f0, f1, f2⟩ := N18.out.1
          clear hHeld18
          go_wp2_with fail
          go_meet
          exact ⟨ux17.heap.size, ux16.heap.size, rfl, HQ⟩
        · go_simp
          obtain ⟨ux19, hux19⟩ : ∃ W', ux16.alloc (.cells #[.slice none 0 0, .int .i64 0, .int .i64 0] 121) = W' := ⟨_, rfl⟩
          have hv19 := hux19
          have hbx19 : Below ux16.heap.size ux16 ux19 := by rw [← hux19]; exact (Below.refl _ _).alloc (Nat.le_refl _) _
          have N19 := Lib.hid (show Cur3 ux19 ux16.heap.size (.slice none 0 0) (.int .i64 0) (.int .i64 0) ∧ w.heap.size + 1 < ux16.heap.size from ⟨by rw [← hux19]; exact Cur3.new ux16 _ _ _ _, Tx16.out.2⟩)
          rw [hv19]
          clear hux19 hv19
          have Tx19 := Lib.hid (And.intro (Tx16.out.1.call hbx19) (show w.heap.size + 1 < ux19.heap.size from Nat.lt_of_lt_of_le Tx16.out.2 hbx19.size))
          refine hK.out _ _ (dxs_of Tx19.out.1) (fun hHeld19 => ?_)
          clear hK K hHeld16 hbx19
          try simp only [Act.put, List.getElem_toArray, List.getElem_cons_zero, List.getElem_cons_succ, List.setIfInBounds_toArray, List.set_cons_zero, List.set_cons_succ]
          refine wpAnyK_step (i := 0) rfl (by kernel_rfl) (fun K hK => ?_)
          go_simp
          obtain ⟨ux20, hux20⟩ : ∃ W', ux19.alloc (.cells (madeCells #[.int .i64 0] 1160) 3) = W' := ⟨_, rfl⟩
          have hv20 := hux20
          have hbx20 : Below ux19.heap.size ux19 ux20 := by rw [← hux20]; exact (Below.refl _ _).alloc (Nat.le_refl _) _
          have NE := Lib.hid (Nat.ne_of_lt N19.out.1.lt)
          have N20 := Lib.hid (show RowF ux20 ux19.heap.size 1160 (fun _ => 0) ∧ w.heap.size + 1 < ux19.heap.size from ⟨by rw [← hux20]; exact RowF.made ux19 1160, Tx19.out.2⟩)
          rw [hv20]
          clear hux20 hv20
          have Tx20 := Lib.hid (And.intro (Tx19.out.1.call hbx20) (show w.heap.size + 1 < ux20.heap.size from Nat.lt_of_lt_of_le Tx19.out.2 hbx20.size))
          have N19_20 := Lib.hid (And.intro (N19.out.1.below hbx20) N19.out.2)
          refine hK.out _ _ (dxs_of Tx20.out.1) (fun hHeld20 => ?_)
          clear hK K hHeld19 hbx20
          try simp only [Act.put, List.getElem_toArray, List.getElem_cons_zero, List.getElem_cons_succ, List.setIfInBounds_toArray, List.set_cons_zero, List.set_cons_succ]
          refine wpAnyK_take (i := 6) (v := ?_) rfl (by kernel_rfl) (fun _ _ _ h => h) (Or.inl ⟨by rfl, ?_⟩) (by assumption) ?_
          rotate_left
          · (intro w hSw; (try dsimp only at hSw); go_simp; try with_reducible rfl)
          try simp only [Act.put, List.getElem_toArray, List.getElem_cons_zero, List.getElem_cons_succ, List.setIfInBounds_toArray, List.set_cons_zero, List.set_cons_succ]
          refine wpAnyK_done (by kernel_rfl) ?_
          simp only [List.drop_succ_cons, List.drop_zero]
          have HQ := Lib.hid (show DY w a n cap p inc zs S G ux19.heap.size ux16.heap.size (((ux20.setCell ⟨ux16.heap.size, 0, none⟩ (.slice (some ⟨ux19.heap.size, 0, none⟩) 1160 1160)).setCell ⟨ux16.heap.size, 1, none⟩ (.int .i64 S)).setCell ⟨ux16.heap.size, 2, none⟩ (.int .i64 G)) from dy_put FAR.out Tx20.out.1 N20.out N19_20.out (by first | exact NE.out | exact NE.out.symm))
          obtain ⟨c0, c1, c2, f0, f1, f2⟩ := N19_20.out.1
          clear hHeld20
          go_wp2_with fail
          go_meet
          exact ⟨ux16.heap.size, ux19.heap.size, rfl, HQ⟩
      · go_simp
        obtain ⟨ux21, hux21⟩ : ∃ W', ux10.alloc (.cells #[.slice none 0 0, .int .i64 0, .int .i64 0] 121) = W' := ⟨_, rfl⟩
        have hv21 := hux21
        have hbx21 : Below ux10.heap.size ux10 ux21 := by rw [← hux21]; exact (Below.refl _ _).alloc (Nat.le_refl _) _
        have N21 := Lib.hid (show Cur3 ux21 ux10.heap.size (.slice none 0 0) (.int .i64 0) (.int .i64 0) ∧ w.heap.size + 1 < ux10.heap.size from ⟨by rw [← hux21]; exact Cur3.new ux10 _ _ _ _, Tx10.out.2⟩)
        rw [hv21]
        clear hux21 hv21
        have Tx21 := Lib.hid (And.intro (Tx10.out.1.call hbx21) (show w.heap.size + 1 < ux21.heap.size from Nat.lt_of_lt_of_le Tx10.out.2 hbx21.size))
        refine hK.out _ _ (dxs_of Tx21.out.1) (fun hHeld21 => ?_)
        clear hK K hHeld10 hbx21
        try simp only [Act.put, List.getElem_toArray, List.getElem_cons_zero, List.getElem_cons_succ, List.setIfInBounds_toArray, List.set_cons_zero, List.set_cons_succ]
        refine wpAnyK_two (i := 0) (j := 5) rfl rfl (by kernel_rfl) (fun K hK => ?_) (fun K hK => ?_)
        · go_simp
          obtain ⟨ux22, hux22⟩ : ∃ W', ux21.alloc (.cells (madeCells #[.int .i64 0] 1160) 3) = W' := ⟨_, rfl⟩
          have hv22 := hux22
          have hbx22 : Below ux21.heap.size ux21 ux22 := by rw [← hux22]; exact (Below.refl _ _).alloc (Nat.le_refl _) _
          have NE := Lib.hid (Nat.ne_of_lt N21.out.1.lt)
          have N22 := Lib.hid (show RowF ux22 ux21.heap.size 1160 (fun _ => 0) ∧ w.heap.size + 1 < ux21.heap.size from ⟨by rw [← hux22]; exact RowF.made ux21 1160, Tx21.out.2⟩)
          rw [hv22]
          clear hux22 hv22
          have Tx22 := Lib.hid (And.intro (Tx21.out.1.call hbx22) (show w.heap.size + 1 < ux22.heap.size from Nat.lt_of_lt_of_le Tx21.out.2 hbx22.size))
          have N21_22 := Lib.hid (And.intro (N21.out.1.below hbx22) N21.out.2)
          refine hK.out _ _ (dxs_of Tx22.out.1) (fun hHeld22 => ?_)
          clear hK K hHeld21 hbx22
          try simp only [Act.put, List.getElem_toArray, List.getElem_cons_zero, List.getElem_cons_succ, List.setIfInBounds_toArray, List.set_cons_zero, List.set_cons_succ]
          refine wpAnyK_step (i := 5) rfl (by kernel_rfl) (fun K hK => ?_)
          go_simp
          with_reducible refine (growth_any a n cap zs p inc G0.out L HL.out G HGR.out _ Tx22.out.1.row).mono ?_
          rintro e ux23 ⟨rfl, hbx23⟩
          have Tx23 := Lib.hid (And.intro (Tx22.out.1.call hbx23) (show w.heap.size + 1 < ux23.heap.size from Nat.lt_of_lt_of_le Tx22.out.2 hbx23.size))
          have N22_23 := Lib.hid (And.intro (N22.out.1.under hbx23) N22.out.2)
          have N21_22_23 := Lib.hid (And.intro (N21_22.out.1.below hbx23) N21_22.out.2)
          refine hK.out _ _ (dxs_of Tx23.out.1) (fun hHeld23 => ?_)
          clear hK K hHeld22 hbx23
          try simp only [Act.put, List.getElem_toArray, List.getElem_cons_zero, List.getElem_cons_succ, List.setIfInBounds_toArray, List.set_cons_zero, List.set_cons_succ]
          refine wpAnyK_take (i := 6) (v := ?_) rfl (by kernel_rfl) (fun _ _ _ h => h) (Or.inl ⟨by rfl, ?_⟩) (by assumption) ?_
          rotate_left
          · (intro w hSw; (try dsimp only at hSw); go_simp; try with_reducible rfl)
          try simp only [Act.put, List.getElem_toArray, List.getElem_cons_zero, List.getElem_cons_succ, List.setIfInBounds_toArray, List.set_cons_zero, List.set_cons_succ]
          refine wpAnyK_done (by kernel_rfl) ?_
          simp only [List.drop_succ_cons, List.drop_zero]
          have HQ := Lib.hid (show DY w a n cap p inc zs S G ux21.heap.size ux10.heap.size (((ux23.setCell ⟨ux10.heap.size, 0, none⟩ (.slice (some ⟨ux21.heap.size, 0, none⟩) 1160 1160)).setCell ⟨ux10.heap.size, 1, none⟩ (.int .i64 S)).setCell ⟨ux10.heap.size, 2, none⟩ (.int .i64 G)) from dy_put FAR.out Tx23.out.1 N22_23.out N21_22_23.out (by first | exact NE.out | exact NE.out.symm))
          obtain ⟨c0, c1, c2, f0, f1, f2⟩ := N21_22_23.out.1
          clear hHeld23
          go_wp2_with fail
          go_meet
          exact ⟨ux10.heap.size, ux21.heap.size, rfl, HQ⟩
        · go_simp
          with_reducible refine (growth_any a n cap zs p inc G0.out L HL.out G HGR.out _ Tx21.out.1.row).mono ?_
          rintro e ux24 ⟨rfl, hbx24⟩
          have Tx24 := Lib.hid (And.intro (Tx21.out.1.call hbx24) (show w.heap.size + 1 < ux24.heap.size from Nat.lt_of_lt_of_le Tx21.out.2 hbx24.size))
          have N21_24 := Lib.hid (And.intro (N21.out.1.below hbx24) N21.out.2)
          refine hK.out _ _ (dxs_of Tx24.out.1) (fun hHeld24 => ?_)
          clear hK K hHeld21 hbx24
          try simp only [Act.put, List.getElem_toArray, List.getElem_cons_zero, List.getElem_cons_succ, List.setIfInBounds_toArray, List.set_cons_zero, List.set_cons_succ]
          refine wpAnyK_step (i := 0) rfl (by kernel_rfl) (fun K hK => ?_)
          go_simp
          obtain ⟨ux25, hux25⟩ : ∃ W', ux24.alloc (.cells (madeCells #[.int .i64 0] 1160) 3) = W' := ⟨_, rfl⟩
          have hv25 := hux25
          have hbx25 : Below ux24.heap.size ux24 ux25 := by rw [← hux25]; exact (Below.refl _ _).alloc (Nat.le_refl _) _
          have NE := Lib.hid (Nat.ne_of_lt N21_24.out.1.lt)
          have N25 := Lib.hid (show RowF ux25 ux24.heap.size 1160 (fun _ => 0) ∧ w.heap.size + 1 < ux24.heap.size from ⟨by rw [← hux25]; exact RowF.made ux24 1160, Tx24.out.2⟩)
          rw [hv25]
          clear hux25 hv25
          have Tx25 := Lib.hid (And.intro (Tx24.out.1.call hbx25) (show w.heap.size + 1 < ux25.heap.size from Nat.lt_of_lt_of_le Tx24.out.2 hbx25.size))
          have N21_24_25 := Lib.hid (And.intro (N21_24.out.1.below hbx25) N21_24.out.2)
          refine hK.out _ _ (dxs_of Tx25.out.1) (fun hHeld25 => ?_)
          clear hK K hHeld24 hbx25
          try simp only [Act.put, List.getElem_toArray, List.getElem_cons_zero, List.getElem_cons_succ, List.setIfInBounds_toArray, List.set_cons_zero, List.set_cons_succ]
          refine wpAnyK_take (i := 6) (v := ?_) rfl (by kernel_rfl) (fun _ _ _ h => h) (Or.inl ⟨by rfl, ?_⟩) (by assumption) ?_
          rotate_left
          · (intro w hSw; (try dsimp only at hSw); go_simp; try with_reducible rfl)
          try simp only [Act.put, List.getElem_toArray, List.getElem_cons_zero, List.getElem_cons_succ, List.setIfInBounds_toArray, List.set_cons_zero, List.set_cons_succ]
          refine wpAnyK_done (by kernel_rfl) ?_
          simp only [List.drop_succ_cons, List.drop_zero]
          have HQ := Lib.hid (show DY w a n cap p inc zs S G ux24.heap.size ux10.heap.size (((ux25.setCell ⟨ux10.heap.size, 0, none⟩ (.slice (some ⟨ux24.heap.size, 0, none⟩) 1160 1160)).setCell ⟨ux10.heap.size, 1, none⟩ (.int .i64 S)).setCell ⟨ux10.heap.size, 2, none⟩ (.int .i64 G)) from dy_put FAR.out Tx25.out.1 N25.out N21_24_25.out (by first | exact NE.out | exact NE.out.symm))
          obtain ⟨c0, c1, c2, f0, f1, f2⟩ := N21_24_25.out.1
          clear hHeld25
          go_wp2_with fail
          go_meet
          exact ⟨ux10.heap.size, ux24.heap.size, rfl, HQ⟩
    · go_simp
      obtain ⟨ux26, hv26⟩ : ∃ W', (W.alloc (.cells #[.slice none 0 0, .int .i64 0, .int .i64 0] 121)).drew = W' := ⟨_, rfl⟩
      have hux26 : W.drew.alloc (.cells #[.slice none 0 0, .int .i64 0, .int .i64 0] 121) = ux26 := hv26
      have hbx26 : Below W.drew.heap.size W.drew ux26 := by rw [← hux26]; exact (Below.refl _ _).alloc (Nat.le_refl _) _
      have N26 := Lib.hid (show Cur3 ux26 W.heap.size (.slice none 0 0) (.int .i64 0) (.int .i64 0) ∧ w.heap.size + 1 < W.heap.size from ⟨by rw [← hux26]; exact Cur3.new W.drew _ _ _ _, T0.out.2⟩)
      rw [hv26]
      clear hux26 hv26
      have Tx26 := Lib.hid (And.intro (T0.out.1.call hbx26) (show w.heap.size + 1 < ux26.heap.size from Nat.lt_of_lt_of_le T0.out.2 hbx26.size))
      refine hK.out _ _ (dxs_of Tx26.out.1) (fun hHeld26 => ?_)
      clear hK K hHeld0 hbx26
      try simp only [Act.put, List.getElem_toArray, List.getElem_cons_zero, List.getElem_cons_succ, List.setIfInBounds_toArray, List.set_cons_zero, List.set_cons_succ]
      refine wpAnyK_two (i := 0) (j := 2) rfl rfl (by kernel_rfl) (fun K hK => ?_) (fun K hK => ?_)
      · go_simp
        obtain ⟨ux27, hux27⟩ : ∃ W', ux26.alloc (.cells (madeCells #[.int .i64 0] 1160) 3) = W' := ⟨_, rfl⟩
        have hv27 := hux27
        have hbx27 : Below ux26.heap.size ux26 ux27 := by rw [← hux27]; exact (Below.refl _ _).alloc (Nat.le_refl _) _
        have NE := Lib.hid (Nat.ne_of_lt N26.out.1.lt)
        have N27 := Lib.hid (show RowF ux27 ux26.heap.size 1160 (fun _ => 0) ∧ w.heap.size + 1 < ux26.heap.size from ⟨by rw [← hux27]; exact RowF.made ux26 1160, Tx26.out.2⟩)
        rw [hv27]
        clear hux27 hv27
        have Tx27 := Lib.hid (And.intro (Tx26.out.1.call hbx27) (show w.heap.size + 1 < ux27.heap.size from Nat.lt_of_lt_of_le Tx26.out.2 hbx27.size))
        have N26_27 := Lib.hid (And.intro (N26.out.1.below hbx27) N26.out.2)
        refine hK.out _ _ (dxs_of Tx27.out.1) (fun hHeld27 => ?_)
        clear hK K hHeld26 hbx27
        try simp only [Act.put, List.getElem_toArray, List.getElem_cons_zero, List.getElem_cons_succ, List.setIfInBounds_toArray, List.set_cons_zero, List.set_cons_succ]
        refine wpAnyK_step (i := 2) rfl (by kernel_rfl) (fun K hK => ?_)
        go_simp
        with_reducible refine (start_i a n cap zs p inc G0.out HN.out S HS.out _ Tx27.out.1.row).mono ?_
        rintro e ux28 ⟨rfl, hbx28⟩
        have Tx28 := Lib.hid (And.intro (Tx27.out.1.call hbx28) (show w.heap.size + 1 < ux28.heap.size from Nat.lt_of_lt_of_le Tx27.out.2 hbx28.size))
        have N27_28 := Lib.hid (And.intro (N27.out.1.under hbx28) N27.out.2)
        have N26_27_28 := Lib.hid (And.intro (N26_27.out.1.below hbx28) N26_27.out.2)
        refine hK.out _ _ (dxs_of Tx28.out.1) (fun hHeld28 => ?_)
        clear hK K hHeld27 hbx28
        try simp only [Act.put, List.getElem_toArray, List.getElem_cons_zero, List.getElem_cons_succ, List.setIfInBounds_toArray, List.set_cons_zero, List.set_cons_succ]
        refine wpAnyK_step (i := 5) rfl (by kernel_rfl) (fun K hK => ?_)
        go_simp
        with_reducible refine (growth_any a n cap zs p inc G0.out L HL.out G HGR.out _ Tx28.out.1.row).mono ?_
        rintro e ux29 ⟨rfl, hbx29⟩
        have Tx29 := Lib.hid (And.intro (Tx28.out.1.call hbx29) (show w.heap.size + 1 < ux29.heap.size from Nat.lt_of_lt_of_le Tx28.out.2 hbx29.size))
        have N27_28_29 := Lib.hid (And.intro (N27_28.out.1.under hbx29) N27_28.out.2)
        have N26_27_28_29 := Lib.hid (And.intro (N26_27_28.out.1.below hbx29) N26_27_28.out.2)
        refine hK.out _ _ (dxs_of Tx29.out.1) (fun hHeld29 => ?_)
        clear hK K hHeld28 hbx29
        try simp only [Act.put, List.getElem_toArray, List.getElem_cons_zero, List.getElem_cons_succ, List.setIfInBounds_toArray, List.set_cons_zero, List.set_cons_succ]
        refine wpAnyK_take (i := 6) (v := ?_) rfl (by kernel_rfl) (fun _ _ _ h => h) (Or.inl ⟨by rfl, ?_⟩) (by assumption) ?_
        rotate_left
        · (intro w hSw; (try dsimp only at hSw); go_simp; try with_reducible rfl)
        try simp only [Act.put, List.getElem_toArray, List.getElem_cons_zero, List.getElem_cons_succ, List.setIfInBounds_toArray, List.set_cons_zero, List.set_cons_succ]
        refine wpAnyK_done (by kernel_rfl) ?_
        simp only [List.drop_succ_cons, List.drop_zero]
        have HQ := Lib.hid (show DY w a n cap p inc zs S G ux26.heap.size W.heap.size (((ux29.setCell ⟨W.heap.size, 0, none⟩ (.slice (some ⟨ux26.heap.size, 0, none⟩) 1160 1160)).setCell ⟨W.heap.size, 1, none⟩ (.int .i64 S)).setCell ⟨W.heap.size, 2, none⟩ (.int .i64 G)) from dy_put FAR.out Tx29.out.1 N27_28_29.out N26_27_28_29.out (by first | exact NE.out | exact NE.out.symm))
        obtain ⟨c0, c1, c2, f0, f1, f2⟩ := N26_27_28_29.out.1
        clear hHeld29
        go_wp2_with fail
        go_meet
        exact ⟨W.heap.size, ux26.heap.size, rfl, HQ⟩
      · go_simp
        with_reducible refine (start_i a n cap zs p inc G0.out HN.out S HS.out _ Tx26.out.1.row).mono ?_
        rintro e ux30 ⟨rfl, hbx30⟩
        have Tx30 := Lib.hid (And.intro (Tx26.out.1.call hbx30) (show w.heap.size + 1 < ux30.heap.size from Nat.lt_of_lt_of_le Tx26.out.2 hbx30.size))
        have N26_30 := Lib.hid (And.intro (N26.out.1.below hbx30) N26.out.2)
        refine hK.out _ _ (dxs_of Tx30.out.1) (fun hHeld30 => ?_)
        clear hK K hHeld26 hbx30
        try simp only [Act.put, List.getElem_toArray, List.getElem_cons_zero, List.getElem_cons_succ, List.setIfInBounds_toArray, List.set_cons_zero, List.set_cons_succ]
        refine wpAnyK_two (i := 0) (j := 5) rfl rfl (by kernel_rfl) (fun K hK => ?_) (fun K hK => ?_)
        · go_simp
          obtain ⟨ux31, hux31⟩ : ∃ W', ux30.alloc (.cells (madeCells #[.int .i64 0] 1160) 3) = W' := ⟨_, rfl⟩
          have hv31 := hux31
          have hbx31 : Below ux30.heap.size ux30 ux31 := by rw [← hux31]; exact (Below.refl _ _).alloc (Nat.le_refl _) _
          have NE := Lib.hid (Nat.ne_of_lt N26_30.out.1.lt)
          have N31 := Lib.hid (show RowF ux31 ux30.heap.size 1160 (fun _ => 0) ∧ w.heap.size + 1 < ux30.heap.size from ⟨by rw [← hux31]; exact RowF.made ux30 1160, Tx30.out.2⟩)
          rw [hv31]
          clear hux31 hv31
          have Tx31 := Lib.hid (And.intro (Tx30.out.1.call hbx31) (show w.heap.size + 1 < ux31.heap.size from Nat.lt_of_lt_of_le Tx30.out.2 hbx31.size))
          have N26_30_31 := Lib.hid (And.intro (N26_30.out.1.below hbx31) N26_30.out.2)
          refine hK.out _ _ (dxs_of Tx31.out.1) (fun hHeld31 => ?_)
          clear hK K hHeld30 hbx31
          try simp only [Act.put, List.getElem_toArray, List.getElem_cons_zero, List.getElem_cons_succ, List.setIfInBounds_toArray, List.set_cons_zero, List.set_cons_succ]
          refine wpAnyK_step (i := 5) rfl (by kernel_rfl) (fun K hK => ?_)
          go_simp
          with_reducible refine (growth_any a n cap zs p inc G0.out L HL.out G HGR.out _ Tx31.out.1.row).mono ?_
          rintro e ux32 ⟨rfl, hbx32⟩
          have Tx32 := Lib.hid (And.intro (Tx31.out.1.call hbx32) (show w.heap.size + 1 < ux32.heap.size from Nat.lt_of_lt_of_le Tx31.out.2 hbx32.size))
          have N31_32 := Lib.hid (And.intro (N31.out.1.under hbx32) N31.out.2)
          have N26_30_31_32 := Lib.hid (And.intro (N26_30_31.out.1.below hbx32) N26_30_31.out.2)
          refine hK.out _ _ (dxs_of Tx32.out.1) (fun hHeld32 => ?_)
          clear hK K hHeld31 hbx32
          try simp only [Act.put, List.getElem_toArray, List.getElem_cons_zero, List.getElem_cons_succ, List.setIfInBounds_toArray, List.set_cons_zero, List.set_cons_succ]
          refine wpAnyK_take (i := 6) (v := ?_) rfl (by kernel_rfl) (fun _ _ _ h => h) (Or.inl ⟨by rfl, ?_⟩) (by assumption) ?_
          rotate_left
          · (intro w hSw; (try dsimp only at hSw); go_simp; try with_reducible rfl)
          try simp only [Act.put, List.getElem_toArray, List.getElem_cons_zero, List.getElem_cons_succ, List.setIfInBounds_toArray, List.set_cons_zero, List.set_cons_succ]
          refine wpAnyK_done (by kernel_rfl) ?_
          simp only [List.drop_succ_cons, List.drop_zero]
          have HQ := Lib.hid (show DY w a n cap p inc zs S G ux30.heap.size W.heap.size (((ux32.setCell ⟨W.heap.size, 0, none⟩ (.slice (some ⟨ux30.heap.size, 0, none⟩) 1160 1160)).setCell ⟨W.heap.size, 1, none⟩ (.int .i64 S)).setCell ⟨W.heap.size, 2, none⟩ (.int .i64 G)) from dy_put FAR.out Tx32.out.1 N31_32.out N26_30_31_32.out (by first | exact NE.out | exact NE.out.symm))
          obtain ⟨c0, c1, c2, f0, f1, f2⟩ := N26_30_31_32.out.1
          clear hHeld32
          go_wp2_with fail
          go_meet
          exact ⟨W.heap.size, ux30.heap.size, rfl, HQ⟩
        · go_simp
          with_reducible refine (growth_any a n cap zs p inc G0.out L HL.out G HGR.out _ Tx30.out.1.row).mono ?_
          rintro e ux33 ⟨rfl, hbx33⟩
          have Tx33 := Lib.hid (And.intro (Tx30.out.1.call hbx33) (show w.heap.size + 1 < ux33.heap.size from Nat.lt_of_lt_of_le Tx30.out.2 hbx33.size))
          have N26_30_33 := Lib.hid (And.intro (N26_30.out.1.below hbx33) N26_30.out.2)
          refine hK.out _ _ (dxs_of Tx33.out.1) (fun hHeld33 => ?_)
          clear hK K hHeld30 hbx33
          try simp only [Act.put, List.getElem_toArray, List.getElem_cons_zero, List.getElem_cons_succ, List.setIfInBounds_toArray, List.set_cons_zero, List.set_cons_succ]
          refine wpAnyK_step (i := 0) rfl (by kernel_rfl) (fun K hK => ?_)
          go_simp
          obtain ⟨ux34, hux34⟩ : ∃ W', ux33.alloc (.cells (madeCells #[.int .i64 0] 1160) 3) = W' := ⟨_, rfl⟩
          have hv34 := hux34
          have hbx34 : Below ux33.heap.size ux33 ux34 := by rw [← hux34]; exact (Below.refl _ _).alloc (Nat.le_refl _) _
          have NE := Lib.hid (Nat.ne_of_lt N26_30_33.out.1.lt)
          have N34 := Lib.hid (show RowF ux34 ux33.heap.size 1160 (fun _ => 0) ∧ w.heap.size + 1 < ux33.heap.size from ⟨by rw [← hux34]; exact RowF.made ux33 1160, Tx33.out.2⟩)
          rw [hv34]
          clear hux34 hv34
          have Tx34 := Lib.hid (And.intro (Tx33.out.1.call hbx34) (show w.heap.size + 1 < ux34.heap.size from Nat.lt_of_lt_of_le Tx33.out.2 hbx34.size))
          have N26_30_33_34 := Lib.hid (And.intro (N26_30_33.out.1.below hbx34) N26_30_33.out.2)
          refine hK.out _ _ (dxs_of Tx34.out.1) (fun hHeld34 => ?_)
          clear hK K hHeld33 hbx34
          try simp only [Act.put, List.getElem_toArray, List.getElem_cons_zero, List.getElem_cons_succ, List.setIfInBounds_toArray, List.set_cons_zero, List.set_cons_succ]
          refine wpAnyK_take (i := 6) (v := ?_) rfl (by kernel_rfl) (fun _ _ _ h => h) (Or.inl ⟨by rfl, ?_⟩) (by assumption) ?_
          rotate_left
          · (intro w hSw; (try dsimp only at hSw); go_simp; try with_reducible rfl)
          try simp only [Act.put, List.getElem_toArray, List.getElem_cons_zero, List.getElem_cons_succ, List.setIfInBounds_toArray, List.set_cons_zero, List.set_cons_succ]
          refine wpAnyK_done (by kernel_rfl) ?_
          simp only [List.drop_succ_cons, List.drop_zero]
          have HQ := Lib.hid (show DY w a n cap p inc zs S G ux33.heap.size W.heap.size (((ux34.setCell ⟨W.heap.size, 0, none⟩ (.slice (some ⟨ux33.heap.size, 0, none⟩) 1160 1160)).setCell ⟨W.heap.size, 1, none⟩ (.int .i64 S)).setCell ⟨W.heap.size, 2, none⟩ (.int .i64 G)) from dy_put FAR.out Tx34.out.1 N34.out N26_30_33_34.out (by first | exact NE.out | exact NE.out.symm))
          obtain ⟨c0, c1, c2, f0, f1, f2⟩ := N26_30_33_34.out.1
          clear hHeld34
          go_wp2_with fail
          go_meet
          exact ⟨W.heap.size, ux33.heap.size, rfl, HQ⟩
  case rest =>
    obtain ⟨A, lb, rfl, hy⟩ := hcut
    obtain ⟨w1, rfl⟩ : ∃ u : World, u = wc := ⟨_, rfl⟩
    clear c0 c1 c2 f0 f1 f2
    obtain ⟨c0, c1, c2, f0, f1, f2⟩ := hy.out.dx.cur
    go_upto_region 3 with fail
    refine (pvalues_p a n cap zs p inc G0.out _ hy.out.dx.row).mono ?_
    rintro e w2 ⟨B, rfl, hb, hlB, hmB, hcl⟩
    have Z0 := Lib.hid (show DZ w a n cap p inc zs S G lb A B 0 w2 from dz_start FAR.out hy.out hb hlB hcl)
    clear hb hlB hmB hcl c0 c1 c2 f0 f1 f2
    obtain ⟨d0, d1, d2, d3, d4, d5⟩ := Z0.out.prt
    go_wp2_with fail
    clear d0 d1 d2 d3 d4 d5 T0 hy hmk
    have EV := Lib.hid (show ∀ (args : Array Value) (w : World), (callFunc 209 args).run Try.prog w = .ok (.enter 209 args) w from enters_of Try.func209 (by kernel_rfl) rfl)
    go_loopw [20] (fun s20 wx => ∃ k : Nat, s20 = .int .i64 k ∧ k ≤ 1160 ∧ Hid (DZ w a n cap p inc zs S G lb A B k wx)) (fun s20 _ => 1160 - (intOf s20).toNat)
    case atStart => exact ⟨0, by go_num, Nat.zero_le _, Z0⟩
    case round =>
      obtain ⟨k, rfl, hk, HS⟩ := hrel
      obtain ⟨wk, rfl⟩ : ∃ u : World, u = wr := ⟨_, rfl⟩
      by_cases hlt : k < 1160
      · have hlti : (k : Int) < 1160 := by omega
        obtain ⟨v, hv⟩ : ∃ v, atC zs p inc k = v := ⟨_, rfl⟩
        have HS0 := Lib.hid (HS.out.call (Below.refl _ _).drew)
        have HV := Lib.hid hv
        have ev := EV.out
        obtain ⟨d0, d1, d2, d3, d4, d5⟩ := HS.out.prt
        go_upto_region 6 with fail
        clear d0 d1 d2 d3 d4 d5
        refine wp_region_keeps (fun u => (u.cell? ⟨A, 0, none⟩ = some (.slice (some ⟨lb, 0, none⟩) 1160 1160))) 6 2 (by kernel_rfl) (by kernel_rfl) HS0.out.prt.c0 (fun hHeld0 => ?_)
        refine wpAnyK_take (i := 0) (v := ?_) rfl (by kernel_rfl) (fun _ _ _ h => h) (Or.inl ⟨by rfl, ?_⟩) (by assumption) ?_
        rotate_left
        · (intro w hSw; (try dsimp only at hSw); go_simp; try with_reducible rfl)
        try simp only [Act.put, List.getElem_toArray, List.getElem_cons_zero, List.getElem_cons_succ, List.setIfInBounds_toArray, List.set_cons_zero, List.set_cons_succ]
        refine wpAnyK_take (i := 1) (v := ?_) rfl (by kernel_rfl) (fun _ _ _ h => h) (Or.inl ⟨by rfl, ?_⟩) (by assumption) ?_
        rotate_left
        · (intro w hSw; (try dsimp only at hSw); go_simp; try with_reducible rfl)
        try simp only [Act.put, List.getElem_toArray, List.getElem_cons_zero, List.getElem_cons_succ, List.setIfInBounds_toArray, List.set_cons_zero, List.set_cons_succ]
        refine wpAnyK_take (i := 2) (v := ?_) rfl (by kernel_rfl) (fun _ _ _ h => h) (Or.inl ⟨by rfl, ?_⟩) (by assumption) ?_
        rotate_left
        · (intro w hSw; (try dsimp only at hSw); go_simp; try with_reducible rfl)
        try simp only [Act.put, List.getElem_toArray, List.getElem_cons_zero, List.getElem_cons_succ, List.setIfInBounds_toArray, List.set_cons_zero, List.set_cons_succ]
        refine wpAnyK_take (i := 3) (v := ?_) rfl (by kernel_rfl) (fun _ _ _ h => h) (Or.inl ⟨by rfl, ?_⟩) (by assumption) ?_
        rotate_left
        · (intro w hSw; (try dsimp only at hSw); go_simp; try with_reducible rfl)
        try simp only [Act.put, List.getElem_toArray, List.getElem_cons_zero, List.getElem_cons_succ, List.setIfInBounds_toArray, List.set_cons_zero, List.set_cons_succ]
        refine wpAnyK_take (i := 4) (v := ?_) rfl (by kernel_rfl) (fun _ _ _ h => h) (Or.inl ⟨by rfl, ?_⟩) (by assumption) ?_
        rotate_left
        · (intro w hSw; (try dsimp only at hSw); go_simp; try with_reducible rfl)
        try simp only [Act.put, List.getElem_toArray, List.getElem_cons_zero, List.getElem_cons_succ, List.setIfInBounds_toArray, List.set_cons_zero, List.set_cons_succ]
        refine wpAnyK_step (i := 5) rfl (by kernel_rfl) (fun K hK => ?_)
        go_simp
        with_reducible refine (atp_any B a n cap zs p inc k (by omega) _ HS0.out.cl).mono ?_
        rintro e u3 ⟨rfl, hd⟩
        have HS1 := Lib.hid (HS0.out.call (below_dr (Below.refl _ _) hd))
        clear hd
        rw [hv]
        refine hK.out _ _ HS1.out.prt.c0 (fun hHeld1 => ?_)
        clear hK K hHeld0
        try simp only [Act.put, List.getElem_toArray, List.getElem_cons_zero, List.getElem_cons_succ, List.setIfInBounds_toArray, List.set_cons_zero, List.set_cons_succ]
        refine wpAnyK_done (by kernel_rfl) ?_
        simp only [List.drop_succ_cons, List.drop_zero]
        clear hHeld1
        have HS3 := Lib.hid (HS1.out.step hlt hv)
        obtain ⟨h1, h2⟩ := HS1.out.lst.cell k hlt
        clear hv ev
        go_wp2_with fail
        go_roundw
        case rel => exact ⟨k + 1, by go_num, by omega, HS3⟩
        case measure => simp [intOf]; omega
      · obtain rfl : k = 1160 := by omega
        have HP := Lib.hid (show GivesPart zs p inc S G w (.returned (curV (some ⟨lb, 0, none⟩) 1160 1160 S G)) (((wk.setCell ⟨w.heap.size + 1, 0, none⟩ (.slice (some ⟨lb, 0, none⟩) 1160 1160)).setCell ⟨w.heap.size + 1, 1, none⟩ (.int .i64 S)).setCell ⟨w.heap.size + 1, 2, none⟩ (.int .i64 G)) by
          have hl := HS.out.l1
          exact ⟨lb, rfl, below_set3 HS.out.below (by omega) _ _ _, by omega, (((HS.out.lst.other (by omega) _ _).other (by omega) _ _).other (by omega) _ _).congr fun i hi => if_pos hi⟩)
        obtain ⟨d0, d1, d2, d3, d4, d5⟩ := HS.out.prt
        obtain ⟨c0, c1, c2, f0, f1, f2⟩ := HS.out.res
        have hl := HS.out.l2
        go_wp2_with fail
        exact bodyPost_ret (v := curV (some ⟨lb, 0, none⟩) 1160 1160 S G) (by simp [results, Try.results143, go_sem, c0, c1, c2]) rfl HP.out


end Go.Proofs.Ytjipmkgnndldpaa

namespace Go.Proofs.Ytjipmkgnndldpaa
open Go.RowKit
set_option linter.unusedSimpArgs false
set_option linter.unusedVariables false

structure Sq (w : World) (a1 : Option Addr) (n1 cap1 p1 : Nat) (i1 : Int) (z1 : List Int) (a2 : Option Addr) (n2 cap2 p2 : Nat) (i2 : Int) (z2 : List Int) (u : World) : Prop where
  c1 : Cur3 u w.heap.size (.slice a1 n1 cap1) (.int .i64 p1) (.int .i64 i1)
  c2 : Cur3 u (w.heap.size + 1) (.slice a2 n2 cap2) (.int .i64 p2) (.int .i64 i2)
  res : Pr7 u (w.heap.size + 2) (.slice none 0 0) (.int .i64 0) (.int .i64 0) (.slice none 0 0) (.int .i64 0) (.int .i64 0) (.int .i64 0)
  r1 : RowZ u a1 n1 cap1 z1
  r2 : RowZ u a2 n2 cap2 z2
  f1 : ∀ x, a1 = some x → 1 ≤ n1 → x.block < w.heap.size ∨ w.heap.size + 2 < x.block
  f2 : ∀ x, a2 = some x → 1 ≤ n2 → x.block < w.heap.size ∨ w.heap.size + 2 < x.block
  below : Below w.heap.size w u
section
variable {w : World} {a1 a2 : Option Addr} {n1 cap1 p1 n2 cap2 p2 : Nat} {i1 i2 : Int} {z1 z2 : List Int} {u v : World}
theorem Sq.call (h : Sq w a1 n1 cap1 p1 i1 z1 a2 n2 cap2 p2 i2 z2 u) (hb : Below u.heap.size u v) : Sq w a1 n1 cap1 p1 i1 z1 a2 n2 cap2 p2 i2 z2 v :=
  ⟨h.c1.below hb, h.c2.below hb, h.res.below hb, h.r1.under hb, h.r2.under hb, h.f1, h.f2, h.below.trans (hb.mono h.below.size)⟩
theorem Sq.put1 (h : Sq w a1 n1 cap1 p1 i1 z1 a2 n2 cap2 p2 i2 z2 u) {a : Option Addr} {n cap p : Nat} {i : Int} {z : List Int} (hr : RowZ u a n cap z) (hx : ∀ x, a = some x → w.heap.size + 3 ≤ x.block) :
    Sq w a n cap p i z a2 n2 cap2 p2 i2 z2 (((u.setCell ⟨w.heap.size, 0, none⟩ (.slice a n cap)).setCell ⟨w.heap.size, 1, none⟩ (.int .i64 p)).setCell ⟨w.heap.size, 2, none⟩ (.int .i64 i)) := by
  have k1 : ∀ x, a = some x → 1 ≤ n → x.block ≠ w.heap.size := fun x h1 _ => by have := hx x h1; omega
  have k2 : ∀ x, a2 = some x → 1 ≤ n2 → x.block ≠ w.heap.size := fun x h1 h2 => by have := h.f2 x h1 h2; omega
  exact ⟨h.c1.set _ _ _, ((h.c2.other (by omega) _ _).other (by omega) _ _).other (by omega) _ _, ((h.res.other (by omega) _ _).other (by omega) _ _).other (by omega) _ _,
    ((hr.store k1 _ _).store k1 _ _).store k1 _ _, ((h.r2.store k2 _ _).store k2 _ _).store k2 _ _, fun x h1 h2 => .inr (by have := hx x h1; omega), h.f2, below_set3 h.below (Nat.le_refl _) _ _ _⟩
theorem Sq.put2 (h : Sq w a1 n1 cap1 p1 i1 z1 a2 n2 cap2 p2 i2 z2 u) {a : Option Addr} {n cap p : Nat} {i : Int} {z : List Int} (hr : RowZ u a n cap z) (hx : ∀ x, a = some x → w.heap.size + 3 ≤ x.block) :
    Sq w a1 n1 cap1 p1 i1 z1 a n cap p i z (((u.setCell ⟨w.heap.size + 1, 0, none⟩ (.slice a n cap)).setCell ⟨w.heap.size + 1, 1, none⟩ (.int .i64 p)).setCell ⟨w.heap.size + 1, 2, none⟩ (.int .i64 i)) := by
  have k1 : ∀ x, a = some x → 1 ≤ n → x.block ≠ w.heap.size + 1 := fun x h1 _ => by have := hx x h1; omega
  have k2 : ∀ x, a1 = some x → 1 ≤ n1 → x.block ≠ w.heap.size + 1 := fun x h1 h2 => by have := h.f1 x h1 h2; omega
  exact ⟨((h.c1.other (by omega) _ _).other (by omega) _ _).other (by omega) _ _, h.c2.set _ _ _, ((h.res.other (by omega) _ _).other (by omega) _ _).other (by omega) _ _,
    ((h.r1.store k2 _ _).store k2 _ _).store k2 _ _, ((hr.store k1 _ _).store k1 _ _).store k1 _ _, h.f1, fun x h1 h2 => .inr (by have := hx x h1; omega), below_set3 h.below (by omega) _ _ _⟩
theorem Sq.other (h : Sq w a1 n1 cap1 p1 i1 z1 a2 n2 cap2 p2 i2 z2 u) {b : Nat} (hb : w.heap.size + 2 < b) (hx1 : ∀ x, a1 = some x → 1 ≤ n1 → x.block < b) (hx2 : ∀ x, a2 = some x → 1 ≤ n2 → x.block < b) (i : Nat) (v : Value) : Sq w a1 n1 cap1 p1 i1 z1 a2 n2 cap2 p2 i2 z2 (u.setCell ⟨b, i, none⟩ v) :=
  ⟨h.c1.other (by omega) _ _, h.c2.other (by omega) _ _, h.res.other (by omega) _ _, h.r1.store (fun x h1 h2 => by have := hx1 x h1 h2; omega) _ _, h.r2.store (fun x h1 h2 => by have := hx2 x h1 h2; omega) _ _, h.f1, h.f2, h.below.setCell (p := ⟨b, i, none⟩) (by show w.heap.size ≤ b; omega) v⟩
end
theorem sq_start {w : World} {a1 a2 : Option Addr} {n1 cap1 p1 n2 cap2 p2 : Nat} {i1 i2 : Int} {z1 z2 : List Int} (h1 : RowZ w a1 n1 cap1 z1) (h2 : RowZ w a2 n2 cap2 z2) {W : World}
    (hW : ((w.alloc (.cells #[.slice a1 n1 cap1, .int .i64 p1, .int .i64 i1] 38)).alloc (.cells #[.slice a2 n2 cap2, .int .i64 p2, .int .i64 i2] 38)).alloc (.cells #[.slice none 0 0, .int .i64 0, .int .i64 0, .slice none 0 0, .int .i64 0, .int .i64 0, .int .i64 0] 123) = W) :
    Sq w a1 n1 cap1 p1 i1 z1 a2 n2 cap2 p2 i2 z2 W ∧ W.heap.size = w.heap.size + 3 := by
  subst hW
  have hB : Below w.heap.size w (((w.alloc (.cells #[.slice a1 n1 cap1, .int .i64 p1, .int .i64 i1] 38)).alloc (.cells #[.slice a2 n2 cap2, .int .i64 p2, .int .i64 i2] 38)).alloc (.cells #[.slice none 0 0, .int .i64 0, .int .i64 0, .slice none 0 0, .int .i64 0, .int .i64 0, .int .i64 0] 123)) := (((Below.refl _ _).alloc (Nat.le_refl _) _).alloc (by simp) _).alloc (by simp; omega) _
  refine ⟨⟨((Cur3.new w _ _ _ _).alloc _).alloc _, (Cur3.new2 w _ _ _ _ _).alloc _, ?_, h1.under hB, h2.under hB, fun x k1 k2 => .inl (h1.far x k1 k2), fun x k1 k2 => .inl (h2.far x k1 k2), hB⟩, by simp⟩
  have := pr7_new ((w.alloc (.cells #[.slice a1 n1 cap1, .int .i64 p1, .int .i64 i1] 38)).alloc (.cells #[.slice a2 n2 cap2, .int .i64 p2, .int .i64 i2] 38)) (.slice none 0 0) (.int .i64 0) (.int .i64 0) (.slice none 0 0) (.int .i64 0) (.int .i64 0) (.int .i64 0) 123
  simpa using this

/-- The pair of two curves. -/
def GivesTwo (y1 : List Int) (q1 : Nat) (j1 : Int) (y2 : List Int) (q2 : Nat) (j2 : Int) (L : Nat) (w : World) (e : Ending) (w' : World) : Prop :=
  ∃ la lb : Nat, e = .returned (.tuple #[pairV la (y1.length - q1) (growI y1 q1 j1 L) lb (y2.length - q2) (growI y2 q2 j2 L) L, .int .i64 0]) ∧ Below w.heap.size w w' ∧ RowF w' la 1160 (atC y1 q1 j1) ∧ RowF w' lb 1160 (atC y2 q2 j2)

theorem NormC.again' {zs zs' : List Int} {p p' : Nat} {inc inc' : Int} (h : NormC zs p inc zs' p' inc') (g : Good zs p inc) : NormC zs' p' inc' zs' p' inc' := by
  obtain ⟨s, _, hn⟩ := norm_self (h.eform g)
  exact hn
theorem below_set7 {B : Nat} {u w : World} {b : Nat} (h : Below B u w) (hb : B ≤ b) (y0 y1 y2 y3 y4 y5 y6 : Value) : Below B u (((((((w.setCell ⟨b, 0, none⟩ y0).setCell ⟨b, 1, none⟩ y1).setCell ⟨b, 2, none⟩ y2).setCell ⟨b, 3, none⟩ y3).setCell ⟨b, 4, none⟩ y4).setCell ⟨b, 5, none⟩ y5).setCell ⟨b, 6, none⟩ y6) :=
  ((((below_set3 h hb y0 y1 y2).setCell (p := ⟨b, 3, none⟩) hb _).setCell (p := ⟨b, 4, none⟩) hb _).setCell (p := ⟨b, 5, none⟩) hb _).setCell (p := ⟨b, 6, none⟩) hb _

set_option maxRecDepth 100000 in
set_option maxHeartbeats 6400000 in
theorem paired_ok (a1 : Option Addr) (n1 cap1 : Nat) (z1 : List Int) (p1 : Nat) (i1 : Int) (g1 : Good z1 p1 i1) (a2 : Option Addr) (n2 cap2 : Nat) (z2 : List Int) (p2 : Nat) (i2 : Int) (g2 : Good z2 p2 i2)
    {y1 y2 : List Int} {q1 q2 : Nat} {j1 j2 : Int} (hn1 : NormC z1 p1 i1 y1 q1 j1) (hn2 : NormC z2 p2 i2 y2 q2 j2) (L : Nat) (hL : q1 / Nat.gcd q1 q2 * q2 = L) (hL2 : L ≤ 120) (w : World) (h1 : RowZ w a1 n1 cap1 z1) (h2 : RowZ w a2 n2 cap2 z2) :
    Calls Try.prog 111 #[curV a1 n1 cap1 p1 i1, curV a2 n2 cap2 p2 i2] w (GivesTwo y1 q1 j1 y2 q2 j2 L w) := by
  obtain ⟨W, hW⟩ : ∃ W, ((w.alloc (.cells #[.slice a1 n1 cap1, .int .i64 p1, .int .i64 i1] 38)).alloc (.cells #[.slice a2 n2 cap2, .int .i64 p2, .int .i64 i2] 38)).alloc (.cells #[.slice none 0 0, .int .i64 0, .int .i64 0, .slice none 0 0, .int .i64 0, .int .i64 0, .int .i64 0] 123) = W := ⟨_, rfl⟩
  obtain ⟨t0, hsz⟩ := sq_start (p1 := p1) (i1 := i1) (p2 := p2) (i2 := i2) h1 h2 hW
  have T0 := Lib.hid t0
  have HSZ := Lib.hid hsz
  have HW := Lib.hid hW
  have V1 := Lib.hid ((okC_iff z1 p1 i1).2 g1)
  have V2 := Lib.hid ((okC_iff z2 p2 i2).2 g2)
  have G1 := Lib.hid g1
  have G2 := Lib.hid g2
  have HN := Lib.hid (And.intro hn1 hn2)
  have HL := Lib.hid hL
  obtain ⟨b1, b2, b3, b4, b5, b6⟩ := norm_p3 g1 hn1
  obtain ⟨d1, d2, d3, d4, d5, d6⟩ := norm_p3 g2 hn2
  have e1 : In64 (p1 : Int) := ⟨by omega, by have := g1.p2; omega⟩
  have e2 : In64 (p2 : Int) := ⟨by omega, by have := g2.p2; omega⟩
  have e3 : In64 i1 := ⟨by have := g1.i0; omega, by have := g1.i1; omega⟩
  have e4 : In64 i2 := ⟨by have := g2.i0; omega, by have := g2.i1; omega⟩
  have HI := Lib.hid (And.intro (And.intro e1 e3) (And.intro e2 e4))
  have hL1 : 1 ≤ L := (lcm_of b1 d1 hL).one
  clear t0 hsz hW g1 g2 hn1 hn2 hL h1 h2 e1 e2 e3 e4
  go_enter Try.func111, Try.ntmps111
  go_wp2_with fail
  try rw [HW.out]
  refine (valid_any a1 n1 cap1 z1 p1 i1 HI.out.1.1 HI.out.1.2 true V1.out _ T0.out.r1).mono ?_
  rintro e w1 ⟨rfl, hb⟩
  have T1 := Lib.hid (T0.out.call hb)
  obtain ⟨c0, c1, c2, f0, f1, f2⟩ := T1.out.c2
  have HS1 := Lib.hid (Nat.le_trans (Nat.le_of_eq HSZ.out.symm) hb.size)
  clear hb
  go_wp2_with fail
  refine (valid_any a2 n2 cap2 z2 p2 i2 HI.out.2.1 HI.out.2.2 true V2.out _ T1.out.r2).mono ?_
  rintro e w2 ⟨rfl, hb⟩
  have T2 := Lib.hid (T1.out.call hb)
  have HS2 := Lib.hid (Nat.le_trans HS1.out hb.size)
  clear hb c0 c1 c2 f0 f1 f2
  obtain ⟨c0, c1, c2, f0, f1, f2⟩ := T2.out.c1
  go_wp2_with fail
  refine (normal_ok a1 n1 cap1 z1 p1 i1 G1.out _ T2.out.r1).mono ?_
  rintro e w3 ⟨a3, n3, cap3, x1, r1, k1, rfl, hb, hr, hn, hx⟩
  obtain ⟨rfl, rfl, rfl⟩ := hn.canon G1.out G1.out HN.out.1 (fun _ => rfl)
  obtain ⟨W3, hW3⟩ : ∃ W3, (((w3.setCell ⟨w.heap.size, 0, none⟩ (.slice a3 n3 cap3)).setCell ⟨w.heap.size, 1, none⟩ (.int .i64 r1)).setCell ⟨w.heap.size, 2, none⟩ (.int .i64 k1)) = W3 := ⟨_, rfl⟩
  have T3 := Lib.hid (show Sq w a3 n3 cap3 r1 k1 x1 a2 n2 cap2 p2 i2 z2 W3 by rw [← hW3]; exact (T2.out.call hb).put1 hr (fun x h => by have := hx x h; have := HS2.out; omega))
  have HS3 := Lib.hid (show w.heap.size + 3 ≤ W3.heap.size by rw [← hW3]; have := hb.size; have := HS2.out; simp [World.setCell]; omega)
  have HW3 := Lib.hid hW3
  have g3 := T2.out.c2.below hb
  clear c0 c1 c2 f0 f1 f2
  obtain ⟨c0, c1, c2, f0, f1, f2⟩ := T2.out.c1.below hb
  obtain ⟨d0', d1', d2', g0', g1', g2'⟩ := g3
  clear hb hr hn hx hW3
  go_wp2_with fail
  rw [HW3.out]
  refine (normal_ok a2 n2 cap2 z2 p2 i2 G2.out _ T3.out.r2).mono ?_
  rintro e w4 ⟨a4, n4, cap4, x2, r2, k2, rfl, hb, hr, hn, hx⟩
  obtain ⟨rfl, rfl, rfl⟩ := hn.canon G2.out G2.out HN.out.2 (fun _ => rfl)
  obtain ⟨W4, hW4⟩ : ∃ W4, (((w4.setCell ⟨w.heap.size + 1, 0, none⟩ (.slice a4 n4 cap4)).setCell ⟨w.heap.size + 1, 1, none⟩ (.int .i64 r2)).setCell ⟨w.heap.size + 1, 2, none⟩ (.int .i64 k2)) = W4 := ⟨_, rfl⟩
  have T4 := Lib.hid (show Sq w a3 n3 cap3 r1 k1 x1 a4 n4 cap4 r2 k2 x2 W4 by rw [← hW4]; exact (T3.out.call hb).put2 hr (fun x h => by have := hx x h; have := HS3.out; omega))
  have HW4 := Lib.hid hW4
  clear c0 c1 c2 f0 f1 f2 d0' d1' d2' g0' g1' g2'
  obtain ⟨c0, c1, c2, f0, f1, f2⟩ := T3.out.c2.below hb
  have g4 := T3.out.c1.below hb
  obtain ⟨d0', d1', d2', g0', g1', g2'⟩ := g4
  clear hb hr hn hx hW4
  go_wp2_with fail
  rw [HW4.out]
  refine (common_any r1 r2 L HL.out b1 (by omega) d1 (by omega) _).mono ?_
  rintro e w5 ⟨rfl, hd5⟩
  have T5 := Lib.hid (T4.out.call (below_dr (Below.refl _ _) hd5))
  clear c0 c1 c2 f0 f1 f2 d0' d1' d2' g0' g1' g2' hd5
  have hL3 : ¬ (120 : Int) < (L : Int) := by omega
  have GX := Lib.hid (And.intro (HN.out.1.good G1.out) (HN.out.2.good G2.out))
  have NX := Lib.hid (And.intro (HN.out.1.again' G1.out) (HN.out.2.again' G2.out))
  have Q1 := Lib.hid (show x1.length = (x1.length - r1) + r1 by omega)
  have Q2 := Lib.hid (show x2.length = (x2.length - r2) + r2 by omega)
  have hL120 := Lib.hid hL2
  have KS := Lib.hid (show ∀ u, Sq w a3 n3 cap3 r1 k1 x1 a4 n4 cap4 r2 k2 x2 u → (fun u => u.cell? ⟨w.heap.size, 0, none⟩ = some (.slice a3 n3 cap3) ∧ u.cell? ⟨w.heap.size, 1, none⟩ = some (.int .i64 r1) ∧ u.cell? ⟨w.heap.size, 2, none⟩ = some (.int .i64 k1) ∧ u.cell? ⟨w.heap.size + 1, 0, none⟩ = some (.slice a4 n4 cap4) ∧ u.cell? ⟨w.heap.size + 1, 1, none⟩ = some (.int .i64 r2) ∧ u.cell? ⟨w.heap.size + 1, 2, none⟩ = some (.int .i64 k2) ∧ Hid (Sq w a3 n3 cap3 r1 k1 x1 a4 n4 cap4 r2 k2 x2 u)) u from fun u hu => ⟨hu.c1.c0, hu.c1.c1, hu.c1.c2, hu.c2.c0, hu.c2.c1, hu.c2.c2, hu⟩)
  have T6 := Lib.hid (T5.out.call (Below.refl _ _).drew)
  obtain ⟨c0, c1, c2, f0, f1, f2⟩ := T5.out.c1
  obtain ⟨d0', d1', d2', g0', g1', g2'⟩ := T5.out.c2
  go_upto_region 8 with fail
  clear c0 c1 c2 f0 f1 f2 d0' d1' d2' g0' g1' g2'
  refine wp_region_keeps (fun u => u.cell? ⟨w.heap.size, 0, none⟩ = some (.slice a3 n3 cap3) ∧ u.cell? ⟨w.heap.size, 1, none⟩ = some (.int .i64 r1) ∧ u.cell? ⟨w.heap.size, 2, none⟩ = some (.int .i64 k1) ∧ u.cell? ⟨w.heap.size + 1, 0, none⟩ = some (.slice a4 n4 cap4) ∧ u.cell? ⟨w.heap.size + 1, 1, none⟩ = some (.int .i64 r2) ∧ u.cell? ⟨w.heap.size + 1, 2, none⟩ = some (.int .i64 k2) ∧ Hid (Sq w a3 n3 cap3 r1 k1 x1 a4 n4 cap4 r2 k2 x2 u)) 8 2 (by kernel_rfl) (by kernel_rfl) (KS.out _ T6.out) (fun hHeld0 => ?_)
  refine wpAnyK_take (i := 0) (v := ?_) rfl (by kernel_rfl) (fun _ _ _ h => h) (Or.inl ⟨by rfl, ?_⟩) (by assumption) ?_
  rotate_left
  · (intro w hSw; (try dsimp only at hSw); go_simp; try with_reducible rfl)
  try simp only [Act.put, List.getElem_toArray, List.getElem_cons_zero, List.getElem_cons_succ, List.setIfInBounds_toArray, List.set_cons_zero, List.set_cons_succ]
  refine wpAnyK_take (i := 1) (v := ?_) rfl (by kernel_rfl) (fun _ _ _ h => h) (Or.inl ⟨by rfl, ?_⟩) (by assumption) ?_
  rotate_left
  · (intro w hSw; (try dsimp only at hSw); go_simp; try with_reducible rfl)
  try simp only [Act.put, List.getElem_toArray, List.getElem_cons_zero, List.getElem_cons_succ, List.setIfInBounds_toArray, List.set_cons_zero, List.set_cons_succ]
  refine wpAnyK_take (i := 3) (v := ?_) rfl (by kernel_rfl) (fun _ _ _ h => h) (Or.inl ⟨by rfl, ?_⟩) (by assumption) ?_
  rotate_left
  · (intro w hSw; (try dsimp only at hSw); go_simp; try with_reducible rfl)
  try simp only [Act.put, List.getElem_toArray, List.getElem_cons_zero, List.getElem_cons_succ, List.setIfInBounds_toArray, List.set_cons_zero, List.set_cons_succ]
  refine wpAnyK_take (i := 4) (v := ?_) rfl (by kernel_rfl) (fun _ _ _ h => h) (Or.inl ⟨by rfl, ?_⟩) (by assumption) ?_
  rotate_left
  · (intro w hSw; (try dsimp only at hSw); go_simp; try with_reducible rfl)
  try simp only [Act.put, List.getElem_toArray, List.getElem_cons_zero, List.getElem_cons_succ, List.setIfInBounds_toArray, List.set_cons_zero, List.set_cons_succ]
  refine wpAnyK_take (i := 6) (v := ?_) rfl (by kernel_rfl) (fun _ _ _ h => h) (Or.inl ⟨by rfl, ?_⟩) (by assumption) ?_
  rotate_left
  · (intro w hSw; (try dsimp only at hSw); go_simp; try with_reducible rfl)
  try simp only [Act.put, List.getElem_toArray, List.getElem_cons_zero, List.getElem_cons_succ, List.setIfInBounds_toArray, List.set_cons_zero, List.set_cons_succ]
  refine wpAnyK_step (i := 2) rfl (by kernel_rfl) (fun K hK => ?_)
  go_simp
  with_reducible refine (described_ok a3 n3 cap3 x1 r1 k1 GX.out.1 NX.out.1 (x1.length - r1) Q1.out L hL120.out (growI x1 r1 k1 L) rfl _ T6.out.r1).mono ?_
  rintro e v1 ⟨la, rfl, hb1, hl1, hf1⟩
  have T7 := Lib.hid (T6.out.call hb1)
  have R1 := Lib.hid hf1
  have HLA := Lib.hid hl1
  clear hb1 hl1 hf1
  refine hK.out _ _ (KS.out _ T7.out) (fun hHeld1 => ?_)
  clear hK K hHeld0
  try simp only [Act.put, List.getElem_toArray, List.getElem_cons_zero, List.getElem_cons_succ, List.setIfInBounds_toArray, List.set_cons_zero, List.set_cons_succ]
  refine wpAnyK_step (i := 5) rfl (by kernel_rfl) (fun K hK => ?_)
  go_simp
  with_reducible refine (described_ok a4 n4 cap4 x2 r2 k2 GX.out.2 NX.out.2 (x2.length - r2) Q2.out L hL120.out (growI x2 r2 k2 L) rfl _ T7.out.r2).mono ?_
  rintro e v2 ⟨lb, rfl, hb2, hl2, hf2⟩
  have T8 := Lib.hid (T7.out.call hb2)
  have R3 := Lib.hid (And.intro (R1.out.under hb2) hf2)
  have LA := Lib.hid (And.intro (Nat.le_trans (Nat.succ_le_of_lt T6.out.res.lt) HLA.out) (Nat.le_trans (Nat.succ_le_of_lt T7.out.res.lt) hl2))
  clear hb2 hl2 hf2
  refine hK.out _ _ (KS.out _ T8.out) (fun hHeld2 => ?_)
  clear hK K hHeld1
  try simp only [Act.put, List.getElem_toArray, List.getElem_cons_zero, List.getElem_cons_succ, List.setIfInBounds_toArray, List.set_cons_zero, List.set_cons_succ]
  refine wpAnyK_take (i := 7) (v := ?_) rfl (by kernel_rfl) (fun _ _ _ h => h) (Or.inl ⟨by rfl, ?_⟩) (by assumption) ?_
  rotate_left
  · (intro w hSw; (try dsimp only at hSw); go_simp; try with_reducible rfl)
  try simp only [Act.put, List.getElem_toArray, List.getElem_cons_zero, List.getElem_cons_succ, List.setIfInBounds_toArray, List.set_cons_zero, List.set_cons_succ]
  refine wpAnyK_done (by kernel_rfl) ?_
  simp only [List.drop_succ_cons, List.drop_zero]
  have HP := Lib.hid (show GivesTwo x1 r1 k1 x2 r2 k2 L w (.returned (.tuple #[pairV la (x1.length - r1) (growI x1 r1 k1 L) lb (x2.length - r2) (growI x2 r2 k2 L) L, .int .i64 0])) (((((((v2.setCell ⟨w.heap.size + 2, 0, none⟩ (.slice (some ⟨la, 0, none⟩) 1160 1160)).setCell ⟨w.heap.size + 2, 1, none⟩ (.int .i64 (x1.length - r1 : Nat))).setCell ⟨w.heap.size + 2, 2, none⟩ (.int .i64 (growI x1 r1 k1 L))).setCell ⟨w.heap.size + 2, 3, none⟩ (.slice (some ⟨lb, 0, none⟩) 1160 1160)).setCell ⟨w.heap.size + 2, 4, none⟩ (.int .i64 (x2.length - r2 : Nat))).setCell ⟨w.heap.size + 2, 5, none⟩ (.int .i64 (growI x2 r2 k2 L))).setCell ⟨w.heap.size + 2, 6, none⟩ (.int .i64 L)) by
    obtain ⟨ha, hb⟩ := LA.out
    exact ⟨la, lb, rfl, below_set7 T8.out.below (by omega) _ _ _ _ _ _ _, (((((((R3.out.1.other (by omega) _ _).other (by omega) _ _).other (by omega) _ _).other (by omega) _ _).other (by omega) _ _).other (by omega) _ _).other (by omega) _ _), (((((((R3.out.2.other (by omega) _ _).other (by omega) _ _).other (by omega) _ _).other (by omega) _ _).other (by omega) _ _).other (by omega) _ _).other (by omega) _ _)⟩)
  obtain ⟨⟨c0, c1, c2, f0, f1, f2⟩, c3, c4, c5, c6, f3, f4, f5, f6⟩ := T8.out.res
  clear hHeld2
  go_wp2_with fail
  exact bodyPost_ret (v := .tuple #[pairV la (x1.length - r1) (growI x1 r1 k1 L) lb (x2.length - r2) (growI x2 r2 k2 L) L, .int .i64 0]) (by simp [results, Try.results111, go_sem, c0, c1, c2, c3, c4, c5, c6]) rfl HP.out

/-- What stands while the least sums are listed. -/
structure CV (w : World) (la S1 : Nat) (G1 : Int) (lb S2 : Nat) (G2 : Int) (L : Nat) (z1 : List Int) (p1 : Nat) (i1 : Int) (z2 : List Int) (p2 : Nat) (i2 : Int) (m t : Nat) (x : Int) (u : World) : Prop where
  lst : RowF u (w.heap.size + 2) m (fun i => if i < t then encF (eConv z1 p1 i1 z2 p2 i2) i else if i = t then x else 0)
  box : u.cell? ⟨w.heap.size + 3, 0, none⟩ = some (.slice (some ⟨w.heap.size + 2, 0, none⟩) m m)
  pr : PrB u w.heap.size la S1 G1 lb S2 G2 L
  res : Cur3 u (w.heap.size + 1) (.slice none 0 0) (.int .i64 0) (.int .i64 0)
  r1 : RowF u la 1160 (atC z1 p1 i1)
  r2 : RowF u lb 1160 (atC z2 p2 i2)
  l1 : la < w.heap.size
  l2 : lb < w.heap.size
  below : Below w.heap.size w u
section
variable {w u v : World} {la S1 : Nat} {G1 : Int} {lb S2 : Nat} {G2 : Int} {L : Nat} {z1 : List Int} {p1 : Nat} {i1 : Int} {z2 : List Int} {p2 : Nat} {i2 : Int} {m t : Nat} {x : Int}
theorem CV.call (h : CV w la S1 G1 lb S2 G2 L z1 p1 i1 z2 p2 i2 m t x u) (hb : Below u.heap.size u v) : CV w la S1 G1 lb S2 G2 L z1 p1 i1 z2 p2 i2 m t x v :=
  ⟨h.lst.under hb, (hb.cell (lt_of_cell h.box)).trans h.box, h.pr.below hb, h.res.below hb, h.r1.under hb, h.r2.under hb, h.l1, h.l2, h.below.trans (hb.mono h.below.size)⟩
theorem CV.put (h : CV w la S1 G1 lb S2 G2 L z1 p1 i1 z2 p2 i2 m t x u) (ht : t < m) (y : Int) : CV w la S1 G1 lb S2 G2 L z1 p1 i1 z2 p2 i2 m t y (u.setCell ⟨w.heap.size + 2, t, none⟩ (.int .i64 y)) := by
  have l1 := h.l1
  have l2 := h.l2
  refine ⟨(h.lst.set ht y).congr fun i hi => ?_, ?_, h.pr.other (by omega) _ _, h.res.other (by omega) _ _, h.r1.other (by omega) _ _, h.r2.other (by omega) _ _, h.l1, h.l2, h.below.setCell (p := ⟨w.heap.size + 2, t, none⟩) (by show w.heap.size ≤ w.heap.size + 2; omega) _⟩
  · by_cases e : i = t
    · subst e; rw [if_pos rfl, if_neg (Nat.lt_irrefl _), if_pos rfl]
    · rw [if_neg e, if_neg e, if_neg e]
  · rw [World.cell?_setCell_other _ _ _ _ (fun e => absurd (congrArg Addr.block e) (by simp))]
    exact h.box
theorem CV.next (h : CV w la S1 G1 lb S2 G2 L z1 p1 i1 z2 p2 i2 m t x u) (hx : x = encF (eConv z1 p1 i1 z2 p2 i2) t) : CV w la S1 G1 lb S2 G2 L z1 p1 i1 z2 p2 i2 m (t + 1) 0 u :=
  ⟨h.lst.congr fun i hi => by
    by_cases e : i = t
    · subst e; rw [if_neg (Nat.lt_irrefl _), if_pos rfl, if_pos (Nat.lt_succ_self _), hx]
    · rw [if_neg e]
      by_cases e2 : i < t
      · rw [if_pos e2, if_pos (by omega)]
      · rw [if_neg e2, if_neg (by omega), ite_self], h.box, h.pr, h.res, h.r1, h.r2, h.l1, h.l2, h.below⟩
end
theorem make_rowM (m : Nat) (hm : m ≤ 4000) (w : World) : (Instr.makeSlice 27 (.int .i64 (m : Int)) (.int .i64 (m : Int))).run Try.prog w = .ok (.slice (some ⟨w.heap.size, 0, none⟩) m m) (w.alloc (.cells (madeCells #[.int .i64 0] m) 3)) := by
  have := run_make_row' (P := Try.prog) 27 3 (.int .i64 0) 8 Try.underlying27 info_int rfl .i64 .i64 m (by omega) (by omega) w
  simpa using this

theorem conv1_any {w : World} {bx lb m cap : Nat} {F : Nat → Int} (hx : w.cell? ⟨bx, 0, none⟩ = some (.slice (some ⟨lb, 0, none⟩) m cap)) (hr : RowF w lb m F) (hm : m ≤ 2000) : ClosG 204 #[.pointer (some ⟨bx, 0, none⟩)] m F w := by
  rintro ti t v w' rfl ht rfl hb
  obtain ⟨h1, h2⟩ := (hr.under hb).cell t ht
  have h3 := (hb.cell (lt_of_cell hx)).trans hx
  have h4 : (t : Int) < (m : Int) := by omega
  clear hr hb hx
  go_enter Try.func204, Try.ntmps204
  go_wp2_with fail
  go_ret
  exact ⟨rfl, 0, rfl⟩

set_option maxRecDepth 100000 in
set_option maxHeartbeats 6400000 in
theorem pconv_ok (la lb L : Nat) (z1 : List Int) (p1 : Nat) (i1 : Int) (z2 : List Int) (p2 : Nat) (i2 : Int) (g1 : Good z1 p1 i1) (g2 : Good z2 p2 i2) (hM : Mult p1 p2 L) (hL2 : L ≤ 120) (w : World) (h1 : RowF w la 1160 (atC z1 p1 i1)) (h2 : RowF w lb 1160 (atC z2 p2 i2)) :
    Calls Try.prog 112 #[pairV la (z1.length - p1) (growI z1 p1 i1 L) lb (z2.length - p2) (growI z2 p2 i2 L) L] w (GivesE (eConv z1 p1 i1 z2 p2 i2) w) := by
  have hS1 : z1.length - p1 ≤ 400 := by have := g1.few; omega
  have hS2 : z2.length - p2 ≤ 400 := by have := g2.few; omega
  have hS1' : z1.length - p1 + p1 ≤ 400 := by have := g1.few; have := g1.p3; omega
  have hS2' : z2.length - p2 + p2 ≤ 400 := by have := g2.few; have := g2.p3; omega
  have hL1 := hM.one
  obtain ⟨St, hSt⟩ : ∃ St, max 400 (z1.length - p1 + (z2.length - p2) + L) = St := ⟨_, rfl⟩
  have hSt4 : 400 ≤ St := by omega
  have hq1 := g1.p1
  have hq2 := g2.p1
  have hStm : St + 2 * L ≤ 1160 := by omega
  have hSt1000 : St ≤ 1000 := by omega
  have CS := Lib.hid (conv_settle g1 g2 hM hL2 (S := St) (by omega) hSt4 (by omega))
  have CT := Lib.hid (conv_tame g1 g2)
  have GM := Lib.hid (convG_mid g1 g2 (L := L) hL2)
  have G1' := Lib.hid (show convG z1 p1 i1 z2 p2 i2 L = if plI (atC z1 p1 i1 0) (atC z2 p2 i2 0) = infV then infV else min (growI z1 p1 i1 L) (growI z2 p2 i2 L) from rfl)
  generalize hs1 : z1.length - p1 = S1 at *
  generalize hs2 : z2.length - p2 = S2 at *
  generalize hg1 : growI z1 p1 i1 L = G1 at *
  generalize hg2 : growI z2 p2 i2 L = G2 at *
  have HG := Lib.hid (And.intro g1 g2)
  obtain ⟨W, hW⟩ : ∃ W, (w.alloc (.cells #[.slice (some ⟨la, 0, none⟩) 1160 1160, .int .i64 S1, .int .i64 G1, .slice (some ⟨lb, 0, none⟩) 1160 1160, .int .i64 S2, .int .i64 G2, .int .i64 L] 123)).alloc (.cells #[.slice none 0 0, .int .i64 0, .int .i64 0] 38) = W := ⟨_, rfl⟩
  have hB : Below w.heap.size w W := by rw [← hW]; exact ((Below.refl _ _).alloc (Nat.le_refl _) _).alloc (by simp) _
  have hz : W.heap.size = w.heap.size + 2 := by rw [← hW]; simp
  have HB := Lib.hid hB
  have PB := Lib.hid (show PrB W w.heap.size la S1 G1 lb S2 G2 L by rw [← hW]; exact (pr7_new w _ _ _ _ _ _ _ _).below ((Below.refl _ _).alloc (Nat.le_refl _) _))
  have KR := Lib.hid (show Cur3 W (w.heap.size + 1) (.slice none 0 0) (.int .i64 0) (.int .i64 0) by rw [← hW]; exact Cur3.new2 w _ _ _ _ _)
  have RR := Lib.hid (And.intro (And.intro (h1.under hB) (h2.under hB)) (And.intro h1.lt h2.lt))
  have HZ := Lib.hid hz
  have HW := Lib.hid hW
  have HST := Lib.hid hSt
  obtain ⟨⟨c0, c1, c2, f0, f1, f2⟩, c3, c4, c5, c6, f3, f4, f5, f6⟩ := PB.out
  clear g1 g2 hM hW hB hz h1 h2 hs1 hs2 hg1 hg2 hSt hS1' hS2' hq1 hq2
  go_enter Try.func112, Try.ntmps112
  go_upto_region 1 with fail
  try rw [HW.out]
  go_cut [4] (fun s4 wx => s4 = .int .i64 St ∧ wx = W)
  case first =>
    rcases (show (S1 + S2 + L ≤ 400 ∧ St = 400) ∨ (400 < S1 + S2 + L ∧ St = S1 + S2 + L) by have := HST.out; omega) with ⟨hle, rfl⟩ | ⟨hlt, rfl⟩
    · have t1 : ¬ (400 : Int) < (S1 : Int) + (S2 : Int) + (L : Int) := by omega
      have t2 : decide ((400 : Int) < (S1 : Int) + (S2 : Int) + (L : Int)) = false := decide_eq_false t1
      go_wp2_with fail
      all_goals go_meet
      all_goals exact ⟨by go_num, rfl⟩
    · have t1 : (400 : Int) < (S1 : Int) + (S2 : Int) + (L : Int) := by omega
      have t2 : decide ((400 : Int) < (S1 : Int) + (S2 : Int) + (L : Int)) = true := decide_eq_true t1
      go_wp2_with fail
      all_goals go_meet
      all_goals exact ⟨by go_num, rfl⟩
  case rest =>
  obtain ⟨rfl, hwc⟩ := hcut
  subst hwc
  obtain ⟨m, hm⟩ : ∃ m, St + 2 * L = m := ⟨_, rfl⟩
  have hmI : (St : Int) + 2 * (L : Int) = (m : Int) := by omega
  have hmk := make_rowM m (by omega)
  obtain ⟨wl, hwl⟩ : ∃ W', (wc.alloc (.cells (madeCells #[.int .i64 0] m) 3)).alloc (.cells #[.slice (some ⟨w.heap.size + 2, 0, none⟩) m m] 27) = W' := ⟨_, rfl⟩
  have C0 := Lib.hid (show CV w la S1 G1 lb S2 G2 L z1 p1 i1 z2 p2 i2 m 0 0 wl by
    have hzz := HZ.out
    have hy : Below wc.heap.size wc wl := by rw [← hwl]; exact ((Below.refl _ _).alloc (Nat.le_refl _) _).alloc (by simp) _
    refine ⟨?_, ?_, PB.out.below hy, KR.out.below hy, RR.out.1.1.under hy, RR.out.1.2.under hy, RR.out.2.1, RR.out.2.2, HB.out.trans (hy.mono HB.out.size)⟩
    · have h := ((RowF.made wc m).under (show Below (wc.alloc (.cells (madeCells #[.int .i64 0] m) 3)).heap.size (wc.alloc (.cells (madeCells #[.int .i64 0] m) 3)) wl by rw [← hwl]; exact (Below.refl _ _).alloc (Nat.le_refl _) _))
      rw [hzz] at h
      exact h.congr fun i hi => by rw [if_neg (Nat.not_lt_zero _), ite_self]
    · rw [← hwl]; have := new_cell (wc.alloc (.cells (madeCells #[.int .i64 0] m) 3)) (.slice (some ⟨w.heap.size + 2, 0, none⟩) m m) 27; simpa [hzz] using this)
  have HWL := Lib.hid hwl
  have hzz := HZ.out
  clear hwl
  go_upto_region 3 with fail
  try simp only [hzz]
  try rw [HWL.out]
  have cb := C0.out.box
  go_wp2_with fail
  clear hmk hzz cb c0 c1 c2 f0 f1 f2 c3 c4 c5 c6 f3 f4 f5 f6 KR PB RR HB HZ HWL
  go_loopw [27] (fun s27 wx => ∃ t : Nat, s27 = .int .i64 t ∧ t ≤ m ∧ Hid (CV w la S1 G1 lb S2 G2 L z1 p1 i1 z2 p2 i2 m t 0 wx)) (fun s27 _ => m - (intOf s27).toNat)
  case atStart => exact ⟨0, by go_num, Nat.zero_le _, C0⟩
  case round =>
    obtain ⟨t, rfl, ht, CT1⟩ := hrel
    obtain ⟨wt, rfl⟩ : ∃ u : World, u = wr := ⟨_, rfl⟩
    by_cases hlt : t < m
    · have hlti : (t : Int) < (m : Int) := by omega
      have cb := CT1.out.box
      obtain ⟨r1, r2⟩ := CT1.out.lst.cell t hlt
      have CI := Lib.hid (CT1.out.put hlt infV)
      go_upto_region 7 with fail
      clear cb r1 r2
      go_wp2_with fail
      go_loopw [35] (fun s35 wx => ∃ k : Nat, s35 = .int .i64 k ∧ k ≤ t + 1 ∧ Hid (CV w la S1 G1 lb S2 G2 L z1 p1 i1 z2 p2 i2 m t (enc (convTo (eC z1 p1 i1) (eC z2 p2 i2) t k)) wx)) (fun s35 _ => t + 1 - (intOf s35).toNat)
      case atStart => exact ⟨0, by go_num, Nat.zero_le _, CI⟩
      case round =>
        obtain ⟨k, rfl, hk, CK⟩ := hrel
        obtain ⟨wk, rfl⟩ : ∃ u : World, u = wr := ⟨_, rfl⟩
        by_cases hlk : k < t + 1
        · have hlki : (k : Int) < (t : Int) + 1 := by omega
          obtain ⟨x, hx⟩ : ∃ x, enc (convTo (eC z1 p1 i1) (eC z2 p2 i2) t k) = x := ⟨_, rfl⟩
          obtain ⟨y, hy⟩ : ∃ y, plI (atC z1 p1 i1 k) (atC z2 p2 i2 (t - k)) = y := ⟨_, rfl⟩
          have HY := Lib.hid hy
          have HE := Lib.hid (show enc (convTo (eC z1 p1 i1) (eC z2 p2 i2) t (k + 1)) = min x y by rw [← hx, ← hy]; exact conv_step HG.out.1 HG.out.2 (by omega) (by omega))
          rw [hx] at CK
          have hsub : IntKind.i64.wrap ((t : Int) - (k : Int)) = ((t - k : Nat) : Int) := by rw [show (t : Int) - (k : Int) = ((t - k : Nat) : Int) by omega]; exact IntWalk.i64_in _ ⟨by omega, by omega⟩
          have hsub' : (t : Int) - (k : Int) = ((t - k : Nat) : Int) := by omega
          have hsubw : IntKind.i64.wrap ((t - k : Nat) : Int) = ((t - k : Nat) : Int) := IntWalk.i64_in _ ⟨by omega, by omega⟩
          have CK0 := Lib.hid (CK.out.call (Below.refl _ _).drew)
          have KS := Lib.hid (show ∀ u, CV w la S1 G1 lb S2 G2 L z1 p1 i1 z2 p2 i2 m t x u → (fun u => u.cell? ⟨w.heap.size + 3, 0, none⟩ = some (.slice (some ⟨w.heap.size + 2, 0, none⟩) m m) ∧ u.cell? ⟨w.heap.size + 2, t, none⟩ = some (.int .i64 x) ∧ u.cell? ⟨w.heap.size, 0, none⟩ = some (.slice (some ⟨la, 0, none⟩) 1160 1160) ∧ u.cell? ⟨w.heap.size, 1, none⟩ = some (.int .i64 S1) ∧ u.cell? ⟨w.heap.size, 2, none⟩ = some (.int .i64 G1) ∧ u.cell? ⟨w.heap.size, 3, none⟩ = some (.slice (some ⟨lb, 0, none⟩) 1160 1160) ∧ u.cell? ⟨w.heap.size, 4, none⟩ = some (.int .i64 S2) ∧ u.cell? ⟨w.heap.size, 5, none⟩ = some (.int .i64 G2) ∧ u.cell? ⟨w.heap.size, 6, none⟩ = some (.int .i64 L) ∧ Hid (CV w la S1 G1 lb S2 G2 L z1 p1 i1 z2 p2 i2 m t x u)) u from fun u hu => ⟨hu.box, by have h := (hu.lst.cell t hlt).1; rwa [if_neg (Nat.lt_irrefl _), if_pos rfl] at h, hu.pr.lo.c0, hu.pr.lo.c1, hu.pr.lo.c2, hu.pr.c3, hu.pr.c4, hu.pr.c5, hu.pr.c6, hu⟩)
          have hmin : (x ≤ y ∧ min x y = x) ∨ (y < x ∧ min x y = y) := by omega
          clear hx hy
          go_upto_region 10 with fail
          rcases hmin with ⟨hle, hme⟩ | ⟨hgt, hme⟩
          · have t1 : ¬ y < x := by omega
            have t2 : decide (y < x) = false := decide_eq_false t1
            refine wp_region_keeps (fun u => u.cell? ⟨w.heap.size + 3, 0, none⟩ = some (.slice (some ⟨w.heap.size + 2, 0, none⟩) m m) ∧ u.cell? ⟨w.heap.size + 2, t, none⟩ = some (.int .i64 x) ∧ u.cell? ⟨w.heap.size, 0, none⟩ = some (.slice (some ⟨la, 0, none⟩) 1160 1160) ∧ u.cell? ⟨w.heap.size, 1, none⟩ = some (.int .i64 S1) ∧ u.cell? ⟨w.heap.size, 2, none⟩ = some (.int .i64 G1) ∧ u.cell? ⟨w.heap.size, 3, none⟩ = some (.slice (some ⟨lb, 0, none⟩) 1160 1160) ∧ u.cell? ⟨w.heap.size, 4, none⟩ = some (.int .i64 S2) ∧ u.cell? ⟨w.heap.size, 5, none⟩ = some (.int .i64 G2) ∧ u.cell? ⟨w.heap.size, 6, none⟩ = some (.int .i64 L) ∧ Hid (CV w la S1 G1 lb S2 G2 L z1 p1 i1 z2 p2 i2 m t x u)) 13 2 (by kernel_rfl) (by kernel_rfl) (KS.out _ CK0.out) (fun hHeld0 => ?_)
            refine wpAnyK_take (i := 0) (v := ?_) rfl (by kernel_rfl) (fun _ _ _ h => h) (Or.inl ⟨by rfl, ?_⟩) (by assumption) ?_
            rotate_left
            · (intro w hSw; (try dsimp only at hSw); go_simp; try with_reducible rfl)
            try simp only [Act.put, List.getElem_toArray, List.getElem_cons_zero, List.getElem_cons_succ, List.setIfInBounds_toArray, List.set_cons_zero, List.set_cons_succ]
            refine wpAnyK_take (i := 1) (v := ?_) rfl (by kernel_rfl) (fun _ _ _ h => h) (Or.inl ⟨by rfl, ?_⟩) (by assumption) ?_
            rotate_left
            · (intro w hSw; (try dsimp only at hSw); go_simp; try with_reducible rfl)
            try simp only [Act.put, List.getElem_toArray, List.getElem_cons_zero, List.getElem_cons_succ, List.setIfInBounds_toArray, List.set_cons_zero, List.set_cons_succ]
            refine wpAnyK_take (i := 2) (v := ?_) rfl (by kernel_rfl) (fun _ _ _ h => h) (Or.inl ⟨by rfl, ?_⟩) (by assumption) ?_
            rotate_left
            · (intro w hSw; (try dsimp only at hSw); go_simp; try with_reducible rfl)
            try simp only [Act.put, List.getElem_toArray, List.getElem_cons_zero, List.getElem_cons_succ, List.setIfInBounds_toArray, List.set_cons_zero, List.set_cons_succ]
            refine wpAnyK_take (i := 3) (v := ?_) rfl (by kernel_rfl) (fun _ _ _ h => h) (Or.inl ⟨by rfl, ?_⟩) (by assumption) ?_
            rotate_left
            · (intro w hSw; (try dsimp only at hSw); go_simp; try with_reducible rfl)
            try simp only [Act.put, List.getElem_toArray, List.getElem_cons_zero, List.getElem_cons_succ, List.setIfInBounds_toArray, List.set_cons_zero, List.set_cons_succ]
            refine wpAnyK_take (i := 4) (v := ?_) rfl (by kernel_rfl) (fun _ _ _ h => h) (Or.inl ⟨by rfl, ?_⟩) (by assumption) ?_
            rotate_left
            · (intro w hSw; (try dsimp only at hSw); go_simp; try with_reducible rfl)
            try simp only [Act.put, List.getElem_toArray, List.getElem_cons_zero, List.getElem_cons_succ, List.setIfInBounds_toArray, List.set_cons_zero, List.set_cons_succ]
            refine wpAnyK_take (i := 5) (v := ?_) rfl (by kernel_rfl) (fun _ _ _ h => h) (Or.inl ⟨by rfl, ?_⟩) (by assumption) ?_
            rotate_left
            · (intro w hSw; (try dsimp only at hSw); go_simp; try with_reducible rfl)
            try simp only [Act.put, List.getElem_toArray, List.getElem_cons_zero, List.getElem_cons_succ, List.setIfInBounds_toArray, List.set_cons_zero, List.set_cons_succ]
            refine wpAnyK_take (i := 6) (v := ?_) rfl (by kernel_rfl) (fun _ _ _ h => h) (Or.inl ⟨by rfl, ?_⟩) (by assumption) ?_
            rotate_left
            · (intro w hSw; (try dsimp only at hSw); go_simp; try with_reducible rfl)
            try simp only [Act.put, List.getElem_toArray, List.getElem_cons_zero, List.getElem_cons_succ, List.setIfInBounds_toArray, List.set_cons_zero, List.set_cons_succ]
            refine wpAnyK_take (i := 7) (v := ?_) rfl (by kernel_rfl) (fun _ _ _ h => h) (Or.inl ⟨by rfl, ?_⟩) (by assumption) ?_
            rotate_left
            · (intro w hSw; (try dsimp only at hSw); go_simp; try with_reducible rfl)
            try simp only [Act.put, List.getElem_toArray, List.getElem_cons_zero, List.getElem_cons_succ, List.setIfInBounds_toArray, List.set_cons_zero, List.set_cons_succ]
            refine wpAnyK_take (i := 8) (v := ?_) rfl (by kernel_rfl) (fun _ _ _ h => h) (Or.inl ⟨by rfl, ?_⟩) (by assumption) ?_
            rotate_left
            · (intro w hSw; (try dsimp only at hSw); go_simp; try with_reducible rfl)
            try simp only [Act.put, List.getElem_toArray, List.getElem_cons_zero, List.getElem_cons_succ, List.setIfInBounds_toArray, List.set_cons_zero, List.set_cons_succ]
            refine wpAnyK_take (i := 9) (v := ?_) rfl (by kernel_rfl) (fun _ _ _ h => h) (Or.inl ⟨by rfl, ?_⟩) (by assumption) ?_
            rotate_left
            · (intro w hSw; (try dsimp only at hSw); go_simp; try with_reducible rfl)
            try simp only [Act.put, List.getElem_toArray, List.getElem_cons_zero, List.getElem_cons_succ, List.setIfInBounds_toArray, List.set_cons_zero, List.set_cons_succ]
            refine wpAnyK_take (i := 10) (v := ?_) rfl (by kernel_rfl) (fun _ _ _ h => h) (Or.inl ⟨by rfl, ?_⟩) (by assumption) ?_
            rotate_left
            · (intro w hSw; (try dsimp only at hSw); go_simp; try with_reducible rfl)
            try simp only [Act.put, List.getElem_toArray, List.getElem_cons_zero, List.getElem_cons_succ, List.setIfInBounds_toArray, List.set_cons_zero, List.set_cons_succ]
            refine wpAnyK_step (i := 11) rfl (by kernel_rfl) (fun K hK => ?_)
            go_simp
            with_reducible refine (csum_any la S1 G1 lb S2 G2 L _ _ _ _ k (t - k) rfl rfl (by omega) (by omega) (at_mid2 HG.out.1 (by omega)) (at_mid2 HG.out.2 (by omega)) y HY.out _ CK0.out.r1 CK0.out.r2).mono ?_
            rintro e u3 ⟨rfl, hb⟩
            have CK1 := Lib.hid (CK0.out.call hb)
            clear hb
            refine hK.out _ _ (KS.out _ CK1.out) (fun hHeld1 => ?_)
            clear hK K hHeld0
            try simp only [Act.put, List.getElem_toArray, List.getElem_cons_zero, List.getElem_cons_succ, List.setIfInBounds_toArray, List.set_cons_zero, List.set_cons_succ]
            refine wpAnyK_take (i := 12) (v := ?_) rfl (by kernel_rfl) (fun _ _ _ h => h) (Or.inl ⟨by rfl, ?_⟩) (by assumption) ?_
            rotate_left
            · (intro w hSw; (try dsimp only at hSw); go_simp; try with_reducible rfl)
            try simp only [Act.put, List.getElem_toArray, List.getElem_cons_zero, List.getElem_cons_succ, List.setIfInBounds_toArray, List.set_cons_zero, List.set_cons_succ]
            refine wpAnyK_done (by kernel_rfl) ?_
            simp only [List.drop_succ_cons, List.drop_zero]
            clear hHeld1
            have CP := Lib.hid (CK1.out.put hlt x)
            obtain ⟨h1, h2⟩ := CK1.out.lst.cell t hlt
            have cb := CK1.out.box
            go_wp2_with fail
            go_roundw
            case rel => exact ⟨k + 1, by go_num, by omega, by rw [HE.out, hme]; exact CP⟩
            case measure => simp [intOf]; omega
          · have t2 : decide (y < x) = true := decide_eq_true hgt
            refine wp_region_keeps (fun u => u.cell? ⟨w.heap.size + 3, 0, none⟩ = some (.slice (some ⟨w.heap.size + 2, 0, none⟩) m m) ∧ u.cell? ⟨w.heap.size + 2, t, none⟩ = some (.int .i64 x) ∧ u.cell? ⟨w.heap.size, 0, none⟩ = some (.slice (some ⟨la, 0, none⟩) 1160 1160) ∧ u.cell? ⟨w.heap.size, 1, none⟩ = some (.int .i64 S1) ∧ u.cell? ⟨w.heap.size, 2, none⟩ = some (.int .i64 G1) ∧ u.cell? ⟨w.heap.size, 3, none⟩ = some (.slice (some ⟨lb, 0, none⟩) 1160 1160) ∧ u.cell? ⟨w.heap.size, 4, none⟩ = some (.int .i64 S2) ∧ u.cell? ⟨w.heap.size, 5, none⟩ = some (.int .i64 G2) ∧ u.cell? ⟨w.heap.size, 6, none⟩ = some (.int .i64 L) ∧ Hid (CV w la S1 G1 lb S2 G2 L z1 p1 i1 z2 p2 i2 m t x u)) 13 2 (by kernel_rfl) (by kernel_rfl) (KS.out _ CK0.out) (fun hHeld0 => ?_)
            refine wpAnyK_take (i := 0) (v := ?_) rfl (by kernel_rfl) (fun _ _ _ h => h) (Or.inl ⟨by rfl, ?_⟩) (by assumption) ?_
            rotate_left
            · (intro w hSw; (try dsimp only at hSw); go_simp; try with_reducible rfl)
            try simp only [Act.put, List.getElem_toArray, List.getElem_cons_zero, List.getElem_cons_succ, List.setIfInBounds_toArray, List.set_cons_zero, List.set_cons_succ]
            refine wpAnyK_take (i := 1) (v := ?_) rfl (by kernel_rfl) (fun _ _ _ h => h) (Or.inl ⟨by rfl, ?_⟩) (by assumption) ?_
            rotate_left
            · (intro w hSw; (try dsimp only at hSw); go_simp; try with_reducible rfl)
            try simp only [Act.put, List.getElem_toArray, List.getElem_cons_zero, List.getElem_cons_succ, List.setIfInBounds_toArray, List.set_cons_zero, List.set_cons_succ]
            refine wpAnyK_take (i := 2) (v := ?_) rfl (by kernel_rfl) (fun _ _ _ h => h) (Or.inl ⟨by rfl, ?_⟩) (by assumption) ?_
            rotate_left
            · (intro w hSw; (try dsimp only at hSw); go_simp; try with_reducible rfl)
            try simp only [Act.put, List.getElem_toArray, List.getElem_cons_zero, List.getElem_cons_succ, List.setIfInBounds_toArray, List.set_cons_zero, List.set_cons_succ]
            refine wpAnyK_take (i := 3) (v := ?_) rfl (by kernel_rfl) (fun _ _ _ h => h) (Or.inl ⟨by rfl, ?_⟩) (by assumption) ?_
            rotate_left
            · (intro w hSw; (try dsimp only at hSw); go_simp; try with_reducible rfl)
            try simp only [Act.put, List.getElem_toArray, List.getElem_cons_zero, List.getElem_cons_succ, List.setIfInBounds_toArray, List.set_cons_zero, List.set_cons_succ]
            refine wpAnyK_take (i := 4) (v := ?_) rfl (by kernel_rfl) (fun _ _ _ h => h) (Or.inl ⟨by rfl, ?_⟩) (by assumption) ?_
            rotate_left
            · (intro w hSw; (try dsimp only at hSw); go_simp; try with_reducible rfl)
            try simp only [Act.put, List.getElem_toArray, List.getElem_cons_zero, List.getElem_cons_succ, List.setIfInBounds_toArray, List.set_cons_zero, List.set_cons_succ]
            refine wpAnyK_take (i := 5) (v := ?_) rfl (by kernel_rfl) (fun _ _ _ h => h) (Or.inl ⟨by rfl, ?_⟩) (by assumption) ?_
            rotate_left
            · (intro w hSw; (try dsimp only at hSw); go_simp; try with_reducible rfl)
            try simp only [Act.put, List.getElem_toArray, List.getElem_cons_zero, List.getElem_cons_succ, List.setIfInBounds_toArray, List.set_cons_zero, List.set_cons_succ]
            refine wpAnyK_take (i := 6) (v := ?_) rfl (by kernel_rfl) (fun _ _ _ h => h) (Or.inl ⟨by rfl, ?_⟩) (by assumption) ?_
            rotate_left
            · (intro w hSw; (try dsimp only at hSw); go_simp; try with_reducible rfl)
            try simp only [Act.put, List.getElem_toArray, List.getElem_cons_zero, List.getElem_cons_succ, List.setIfInBounds_toArray, List.set_cons_zero, List.set_cons_succ]
            refine wpAnyK_take (i := 7) (v := ?_) rfl (by kernel_rfl) (fun _ _ _ h => h) (Or.inl ⟨by rfl, ?_⟩) (by assumption) ?_
            rotate_left
            · (intro w hSw; (try dsimp only at hSw); go_simp; try with_reducible rfl)
            try simp only [Act.put, List.getElem_toArray, List.getElem_cons_zero, List.getElem_cons_succ, List.setIfInBounds_toArray, List.set_cons_zero, List.set_cons_succ]
            refine wpAnyK_take (i := 8) (v := ?_) rfl (by kernel_rfl) (fun _ _ _ h => h) (Or.inl ⟨by rfl, ?_⟩) (by assumption) ?_
            rotate_left
            · (intro w hSw; (try dsimp only at hSw); go_simp; try with_reducible rfl)
            try simp only [Act.put, List.getElem_toArray, List.getElem_cons_zero, List.getElem_cons_succ, List.setIfInBounds_toArray, List.set_cons_zero, List.set_cons_succ]
            refine wpAnyK_take (i := 9) (v := ?_) rfl (by kernel_rfl) (fun _ _ _ h => h) (Or.inl ⟨by rfl, ?_⟩) (by assumption) ?_
            rotate_left
            · (intro w hSw; (try dsimp only at hSw); go_simp; try with_reducible rfl)
            try simp only [Act.put, List.getElem_toArray, List.getElem_cons_zero, List.getElem_cons_succ, List.setIfInBounds_toArray, List.set_cons_zero, List.set_cons_succ]
            refine wpAnyK_take (i := 10) (v := ?_) rfl (by kernel_rfl) (fun _ _ _ h => h) (Or.inl ⟨by rfl, ?_⟩) (by assumption) ?_
            rotate_left
            · (intro w hSw; (try dsimp only at hSw); go_simp; try with_reducible rfl)
            try simp only [Act.put, List.getElem_toArray, List.getElem_cons_zero, List.getElem_cons_succ, List.setIfInBounds_toArray, List.set_cons_zero, List.set_cons_succ]
            refine wpAnyK_step (i := 11) rfl (by kernel_rfl) (fun K hK => ?_)
            go_simp
            with_reducible refine (csum_any la S1 G1 lb S2 G2 L _ _ _ _ k (t - k) rfl rfl (by omega) (by omega) (at_mid2 HG.out.1 (by omega)) (at_mid2 HG.out.2 (by omega)) y HY.out _ CK0.out.r1 CK0.out.r2).mono ?_
            rintro e u3 ⟨rfl, hb⟩
            have CK1 := Lib.hid (CK0.out.call hb)
            clear hb
            refine hK.out _ _ (KS.out _ CK1.out) (fun hHeld1 => ?_)
            clear hK K hHeld0
            try simp only [Act.put, List.getElem_toArray, List.getElem_cons_zero, List.getElem_cons_succ, List.setIfInBounds_toArray, List.set_cons_zero, List.set_cons_succ]
            refine wpAnyK_take (i := 12) (v := ?_) rfl (by kernel_rfl) (fun _ _ _ h => h) (Or.inl ⟨by rfl, ?_⟩) (by assumption) ?_
            rotate_left
            · (intro w hSw; (try dsimp only at hSw); go_simp; try with_reducible rfl)
            try simp only [Act.put, List.getElem_toArray, List.getElem_cons_zero, List.getElem_cons_succ, List.setIfInBounds_toArray, List.set_cons_zero, List.set_cons_succ]
            refine wpAnyK_done (by kernel_rfl) ?_
            simp only [List.drop_succ_cons, List.drop_zero]
            clear hHeld1
            have CP := Lib.hid (CK1.out.put hlt y)
            obtain ⟨h1, h2⟩ := CK1.out.lst.cell t hlt
            have cb := CK1.out.box
            go_wp2_with fail
            go_roundw
            case rel => exact ⟨k + 1, by go_num, by omega, by rw [HE.out, hme]; exact CP⟩
            case measure => simp [intOf]; omega
        · obtain rfl : k = t + 1 := by omega
          have hlki : ¬ (((t + 1 : Nat) : Int) < (t : Int) + 1) := by omega
          have CN := Lib.hid (CK.out.next rfl)
          go_wp2_with fail
          go_roundw
          case rel => exact ⟨t + 1, by go_num, by omega, CN⟩
          case measure => simp [intOf]; omega
    · obtain rfl : m = t := by omega
      have hlti : ¬ (m : Int) < (m : Int) := by omega
      have HMM := Lib.hid hm
      have CK0 := Lib.hid (CT1.out.call (Below.refl _ _).drew)
      have EX := Lib.hid (show ∀ (args : Array Value) (w : World), (callFunc 204 args).run Try.prog w = .ok (.enter 204 args) w from enters_of Try.func204 (by kernel_rfl) rfl)
      have HCG := Lib.hid (show ∀ u, CV w la S1 G1 lb S2 G2 L z1 p1 i1 z2 p2 i2 m m 0 u → ClosG 204 #[.pointer (some ⟨w.heap.size + 3, 0, none⟩)] (St + 2 * L) (encF (eConv z1 p1 i1 z2 p2 i2)) u from fun u hu => by
        rw [HMM.out]
        exact (conv1_any hu.box hu.lst (by omega)).congr fun t ht => if_pos ht)
      have KS := Lib.hid (show ∀ u, CV w la S1 G1 lb S2 G2 L z1 p1 i1 z2 p2 i2 m m 0 u → (fun u => u.cell? ⟨w.heap.size, 0, none⟩ = some (.slice (some ⟨la, 0, none⟩) 1160 1160) ∧ u.cell? ⟨w.heap.size, 1, none⟩ = some (.int .i64 S1) ∧ u.cell? ⟨w.heap.size, 2, none⟩ = some (.int .i64 G1) ∧ u.cell? ⟨w.heap.size, 3, none⟩ = some (.slice (some ⟨lb, 0, none⟩) 1160 1160) ∧ u.cell? ⟨w.heap.size, 4, none⟩ = some (.int .i64 S2) ∧ u.cell? ⟨w.heap.size, 5, none⟩ = some (.int .i64 G2) ∧ u.cell? ⟨w.heap.size, 6, none⟩ = some (.int .i64 L) ∧ Hid (CV w la S1 G1 lb S2 G2 L z1 p1 i1 z2 p2 i2 m m 0 u)) u from fun u hu => ⟨hu.pr.lo.c0, hu.pr.lo.c1, hu.pr.lo.c2, hu.pr.c3, hu.pr.c4, hu.pr.c5, hu.pr.c6, hu⟩)
      clear hm
      go_upto_region 13 with fail
      refine wp_region_keeps (fun u => u.cell? ⟨w.heap.size, 0, none⟩ = some (.slice (some ⟨la, 0, none⟩) 1160 1160) ∧ u.cell? ⟨w.heap.size, 1, none⟩ = some (.int .i64 S1) ∧ u.cell? ⟨w.heap.size, 2, none⟩ = some (.int .i64 G1) ∧ u.cell? ⟨w.heap.size, 3, none⟩ = some (.slice (some ⟨lb, 0, none⟩) 1160 1160) ∧ u.cell? ⟨w.heap.size, 4, none⟩ = some (.int .i64 S2) ∧ u.cell? ⟨w.heap.size, 5, none⟩ = some (.int .i64 G2) ∧ u.cell? ⟨w.heap.size, 6, none⟩ = some (.int .i64 L) ∧ Hid (CV w la S1 G1 lb S2 G2 L z1 p1 i1 z2 p2 i2 m m 0 u)) 9 2 (by kernel_rfl) (by kernel_rfl) (KS.out _ CK0.out) (fun hHeld0 => ?_)
      refine wpAnyK_take (i := 0) (v := ?_) rfl (by kernel_rfl) (fun _ _ _ h => h) (Or.inl ⟨by rfl, ?_⟩) (by assumption) ?_
      rotate_left
      · (intro w hSw; (try dsimp only at hSw); go_simp; try with_reducible rfl)
      try simp only [Act.put, List.getElem_toArray, List.getElem_cons_zero, List.getElem_cons_succ, List.setIfInBounds_toArray, List.set_cons_zero, List.set_cons_succ]
      refine wpAnyK_take (i := 1) (v := ?_) rfl (by kernel_rfl) (fun _ _ _ h => h) (Or.inl ⟨by rfl, ?_⟩) (by assumption) ?_
      rotate_left
      · (intro w hSw; (try dsimp only at hSw); go_simp; try with_reducible rfl)
      try simp only [Act.put, List.getElem_toArray, List.getElem_cons_zero, List.getElem_cons_succ, List.setIfInBounds_toArray, List.set_cons_zero, List.set_cons_succ]
      refine wpAnyK_take (i := 2) (v := ?_) rfl (by kernel_rfl) (fun _ _ _ h => h) (Or.inl ⟨by rfl, ?_⟩) (by assumption) ?_
      rotate_left
      · (intro w hSw; (try dsimp only at hSw); go_simp; try with_reducible rfl)
      try simp only [Act.put, List.getElem_toArray, List.getElem_cons_zero, List.getElem_cons_succ, List.setIfInBounds_toArray, List.set_cons_zero, List.set_cons_succ]
      refine wpAnyK_take (i := 3) (v := ?_) rfl (by kernel_rfl) (fun _ _ _ h => h) (Or.inl ⟨by rfl, ?_⟩) (by assumption) ?_
      rotate_left
      · (intro w hSw; (try dsimp only at hSw); go_simp; try with_reducible rfl)
      try simp only [Act.put, List.getElem_toArray, List.getElem_cons_zero, List.getElem_cons_succ, List.setIfInBounds_toArray, List.set_cons_zero, List.set_cons_succ]
      refine wpAnyK_take (i := 5) (v := ?_) rfl (by kernel_rfl) (fun _ _ _ h => h) (Or.inl ⟨by rfl, ?_⟩) (by assumption) ?_
      rotate_left
      · (intro w hSw; (try dsimp only at hSw); go_simp; try with_reducible rfl)
      try simp only [Act.put, List.getElem_toArray, List.getElem_cons_zero, List.getElem_cons_succ, List.setIfInBounds_toArray, List.set_cons_zero, List.set_cons_succ]
      refine wpAnyK_step (i := 4) rfl (by kernel_rfl) (fun K hK => ?_)
      go_simp
      with_reducible refine (cgrow_any la S1 G1 lb S2 G2 L _ _ (at_mid2 HG.out.1 (by omega)) (at_mid2 HG.out.2 (by omega)) (convG z1 p1 i1 z2 p2 i2 L) G1'.out.symm _ CK0.out.r1 CK0.out.r2).mono ?_
      rintro e u3 ⟨rfl, hb⟩
      have CK1 := Lib.hid (CK0.out.call hb)
      clear hb
      refine hK.out _ _ (KS.out _ CK1.out) (fun hHeld1 => ?_)
      clear hK K hHeld0
      try simp only [Act.put, List.getElem_toArray, List.getElem_cons_zero, List.getElem_cons_succ, List.setIfInBounds_toArray, List.set_cons_zero, List.set_cons_succ]
      refine wpAnyK_step (i := 6) rfl (by kernel_rfl) (fun K hK => ?_)
      go_simp
      with_reducible refine (settled_s 204 #[.pointer (some ⟨w.heap.size + 3, 0, none⟩)] (encF (eConv z1 p1 i1 z2 p2 i2)) _ St rfl hSt1000 L (convG z1 p1 i1 z2 p2 i2 L) hL1 hL2 (fun t ht => conv_mid HG.out.1 HG.out.2 (by omega)) GM.out CS.out _ EX.out (HCG.out _ CK1.out)).mono ?_
      rintro e w5 ⟨hb5, ⟨a5, n5, cap5, zs5, p5, inc5, rfl, hr5, hf5, hx5⟩ | ⟨rfl, hno5⟩⟩
      · have HP := Lib.hid (GivesForm.toE CT.out (form_post (b := w.heap.size + 1) CK1.out.below (by omega) CK1.out.res.lt hb5 hr5 hx5 hf5))
        have CK2 := Lib.hid (CK1.out.call hb5)
        refine hK.out _ _ (KS.out _ CK2.out) (fun hHeld2 => ?_)
        clear hK K hHeld1 hb5 hr5 hf5 hx5
        try simp only [Act.put, List.getElem_toArray, List.getElem_cons_zero, List.getElem_cons_succ, List.setIfInBounds_toArray, List.set_cons_zero, List.set_cons_succ]
        refine wpAnyK_take (i := 7) (v := ?_) rfl (by kernel_rfl) (fun _ _ _ h => h) (Or.inl ⟨by rfl, ?_⟩) (by assumption) ?_
        rotate_left
        · (intro w hSw; (try dsimp only at hSw); go_simp; try with_reducible rfl)
        try simp only [Act.put, List.getElem_toArray, List.getElem_cons_zero, List.getElem_cons_succ, List.setIfInBounds_toArray, List.set_cons_zero, List.set_cons_succ]
        refine wpAnyK_take (i := 8) (v := ?_) rfl (by kernel_rfl) (fun _ _ _ h => h) (Or.inl ⟨by rfl, ?_⟩) (by assumption) ?_
        rotate_left
        · (intro w hSw; (try dsimp only at hSw); go_simp; try with_reducible rfl)
        try simp only [Act.put, List.getElem_toArray, List.getElem_cons_zero, List.getElem_cons_succ, List.setIfInBounds_toArray, List.set_cons_zero, List.set_cons_succ]
        refine wpAnyK_done (by kernel_rfl) ?_
        simp only [List.drop_succ_cons, List.drop_zero]
        obtain ⟨d0, d1, d2, g0, g1, g2⟩ := CK2.out.res
        clear hHeld2
        go_wp2_with fail
        exact bodyPost_ret (v := .tuple #[curV a5 n5 cap5 p5 inc5, .int .i64 0]) (by simp [results, Try.results112, go_sem, d0, d1, d2]) rfl HP.out
      · have HP := Lib.hid (GivesForm.toE CT.out (none_post (b := w.heap.size + 1) CK1.out.below (by omega) hb5 hno5))
        have CK2 := Lib.hid (CK1.out.call hb5)
        refine hK.out _ _ (KS.out _ CK2.out) (fun hHeld2 => ?_)
        clear hK K hHeld1 hb5 hno5
        try simp only [Act.put, List.getElem_toArray, List.getElem_cons_zero, List.getElem_cons_succ, List.setIfInBounds_toArray, List.set_cons_zero, List.set_cons_succ]
        refine wpAnyK_take (i := 7) (v := ?_) rfl (by kernel_rfl) (fun _ _ _ h => h) (Or.inl ⟨by rfl, ?_⟩) (by assumption) ?_
        rotate_left
        · (intro w hSw; (try dsimp only at hSw); go_simp; try with_reducible rfl)
        try simp only [Act.put, List.getElem_toArray, List.getElem_cons_zero, List.getElem_cons_succ, List.setIfInBounds_toArray, List.set_cons_zero, List.set_cons_succ]
        refine wpAnyK_take (i := 8) (v := ?_) rfl (by kernel_rfl) (fun _ _ _ h => h) (Or.inl ⟨by rfl, ?_⟩) (by assumption) ?_
        rotate_left
        · (intro w hSw; (try dsimp only at hSw); go_simp; try with_reducible rfl)
        try simp only [Act.put, List.getElem_toArray, List.getElem_cons_zero, List.getElem_cons_succ, List.setIfInBounds_toArray, List.set_cons_zero, List.set_cons_succ]
        refine wpAnyK_done (by kernel_rfl) ?_
        simp only [List.drop_succ_cons, List.drop_zero]
        obtain ⟨d0, d1, d2, g0, g1, g2⟩ := CK2.out.res
        clear hHeld2
        go_wp2_with fail
        exact bodyPost_ret (v := .tuple #[curV none 0 0 0 0, .int .i64 3]) (by simp [results, Try.results112, go_sem, d0, d1, d2]) rfl HP.out

end Go.Proofs.Ytjipmkgnndldpaa

namespace Go.Proofs.Ytjipmkgnndldpaa
open Go.RowKit
set_option linter.unusedSimpArgs false
set_option linter.unusedVariables false

section
variable {W w u v : World} {la S1 : Nat} {G1 : Int} {lb S2 : Nat} {G2 : Int} {L : Nat} {lh Sh : Nat} {Gh : Int} {t : Nat} {y : Int}
end

end Go.Proofs.Ytjipmkgnndldpaa

namespace Go.Proofs.Ytjipmkgnndldpaa
open Go.RowKit
set_option linter.unusedSimpArgs false
set_option linter.unusedVariables false

section
variable {W w u v : World} {la S1 : Nat} {G1 : Int} {lb S2 : Nat} {G2 : Int} {L : Nat} {lh Sh : Nat} {Gh : Int} {F1 F2 Fh : Nat → Int} {N : Nat} {A : Nat → Nat} {t k : Nat}
end

end Go.Proofs.Ytjipmkgnndldpaa
