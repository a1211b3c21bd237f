/- The walk of ConvolutionConcave. By the verifier's side. -/
import Derived.Test.YtladmpoopfabdaaConER
import Derived.Test.YtladmpoopfabdaaBentE
import Derived.Test.YtladmpoopfabdaaConK
namespace Go.Proofs.Ytladmpoopfabdaa
open Go.RowKit
set_option linter.unusedSimpArgs false
set_option linter.unusedVariables false

/-- An array of two curves in a block. -/
structure Ar2 (w : World) (T : Nat) (a0 : Option Addr) (n0 k0 : Nat) (p0 i0 : Int) (a1 : Option Addr) (n1 k1 : Nat) (p1 i1 : Int) : Prop where
  c0 : w.cell? ⟨T, 0, none⟩ = some (.slice a0 n0 k0)
  c1 : w.cell? ⟨T, 1, none⟩ = some (.int .i64 p0)
  c2 : w.cell? ⟨T, 2, none⟩ = some (.int .i64 i0)
  c3 : w.cell? ⟨T, 3, none⟩ = some (.slice a1 n1 k1)
  c4 : w.cell? ⟨T, 4, none⟩ = some (.int .i64 p1)
  c5 : w.cell? ⟨T, 5, none⟩ = some (.int .i64 i1)
  f0 : w.frozen? ⟨T, 0, none⟩ = false
  f1 : w.frozen? ⟨T, 1, none⟩ = false
  f2 : w.frozen? ⟨T, 2, none⟩ = false
  f3 : w.frozen? ⟨T, 3, none⟩ = false
  f4 : w.frozen? ⟨T, 4, none⟩ = false
  f5 : w.frozen? ⟨T, 5, none⟩ = false

/-- A curve that is being made: its box at F, its row of its own at g. -/
structure Cv7 (w : World) (b : Nat) (a : Option Addr) (n cap F g N cap' : Nat) (zs : List Int) (wx : World) : Prop where
  held : Held w b a n cap wx
  box : Cur3 wx F (.slice (some ⟨g, 0, none⟩) N cap') (.int .i64 1) (.int .i64 0)
  row : wx.ownsRow w.heap.size 3 1 (.slice (some ⟨g, 0, none⟩) N cap') N (zs.map (Value.int .i64))
  len : zs.length = N
  bl : b < w.heap.size
  gb : w.heap.size ≤ F
  gG : ¬ g = F
section
variable {w u v : World} {b : Nat} {a : Option Addr} {n cap F g N cap' : Nat} {zs : List Int}
theorem Cv7.call (h : Cv7 w b a n cap F g N cap' zs u) (hs : SrcAt v b a n cap) (ha : Apart b u v) : Cv7 w b a n cap F g N cap' zs v := by
  have h1 := h.bl
  have h2 := h.gb
  exact ⟨h.held.call hs ha, h.box.apart ha (by omega), owns_apart h.row ha (by omega), h.len, h1, h2, h.gG⟩
theorem Cv7.alloc (h : Cv7 w b a n cap F g N cap' zs u) (o : Obj) : Cv7 w b a n cap F g N cap' zs (u.alloc o) := ⟨h.held.alloc o, h.box.alloc o, h.row.alloc o, h.len, h.bl, h.gb, h.gG⟩
theorem Cv7.drew (h : Cv7 w b a n cap F g N cap' zs u) : Cv7 w b a n cap F g N cap' zs u.drew := ⟨h.held.drew, h.box.drewL, h.row, h.len, h.bl, h.gb, h.gG⟩
theorem Cv7.glt (h : Cv7 w b a n cap F g N cap' zs u) : w.heap.size ≤ g := (h.row.lt g rfl).1
theorem Cv7.grow (h : Cv7 w b a n cap F g N cap' zs u) {l : Int} {g2 cap2 : Nat} {w1 : World}
    (hown : w1.ownsRow w.heap.size 3 1 (.slice (some ⟨g2, 0, none⟩) (N + 1) cap2) (N + 1) (zs.map (Value.int .i64) ++ [.int .i64 l])) (hgrow : u.grownBy w1 (Value.slice (some ⟨g, 0, none⟩) N cap').ownBlock) (hat : g2 = g ∨ g2 = u.heap.size) :
    Cv7 w b a n cap F g2 (N + 1) cap2 (zs ++ [l]) (w1.setCell ⟨F, 0, none⟩ (.slice (some ⟨g2, 0, none⟩) (N + 1) cap2)) := by
  have hg := h.glt
  have h1 := h.bl
  have h2 := h.gb
  have h3 := h.gG
  have hlt := h.box.lt
  have hl := h.len
  have hg2 : ¬ g2 = F := by
    rcases hat with e | e
    · rw [e]; exact h3
    · omega
  refine ⟨(h.held.grown h1 hgrow (fun j hj => by cases hj; show w.heap.size ≤ g; omega)).set h1 (p := ⟨F, 0, none⟩) (by show w.heap.size ≤ F; omega) _, (h.box.grownS hgrow h3).set0 _, ?_, by simp [hl], h1, h2, hg2⟩
  rw [List.map_append]; exact owns_ne (p := ⟨F, 0, none⟩) hown hg2 _
theorem Cv7.new (w : World) (h : SrcAt w b a n cap) : Cv7 w b a n cap (w.heap.size + 1) w.heap.size 1 1 [0] ((w.alloc (.cells #[.int .i64 0] 3)).alloc (.cells #[.slice (some ⟨w.heap.size, 0, none⟩) 1 1, .int .i64 1, .int .i64 0] 24)) := by
  have ho := made_own w w.heap.size 1 (Nat.le_refl _) (by omega)
  rw [show madeCells #[Value.int .i64 0] 1 = #[Value.int .i64 0] by simp [madeCells]; exact ⟨0, by decide, by simp⟩] at ho
  exact ⟨((Held.start h).alloc _).alloc _, Cur3.new2 _ _ _ _ _ _, ho.alloc _, rfl, h.lt, by omega, by omega⟩
end

section
variable {w w' : World} {T q : Nat} {a0 a1 : Option Addr} {n0 k0 n1 k1 : Nat} {p0 i0 p1 i1 : Int}
theorem Ar2.lt (h : Ar2 w T a0 n0 k0 p0 i0 a1 n1 k1 p1 i1) : T < w.heap.size := lt_of_cell h.c0
theorem Ar2.apart (h : Ar2 w T a0 n0 k0 p0 i0 a1 n1 k1 p1 i1) (ha : Apart q w w') (hq : T ≠ q) : Ar2 w' T a0 n0 k0 p0 i0 a1 n1 k1 p1 i1 := by
  obtain ⟨h1, h2⟩ := acell ha
  have l := h.lt
  exact ⟨(h1 T 0 l hq).trans h.c0, (h1 T 1 l hq).trans h.c1, (h1 T 2 l hq).trans h.c2, (h1 T 3 l hq).trans h.c3, (h1 T 4 l hq).trans h.c4, (h1 T 5 l hq).trans h.c5, (h2 T 0 l hq).trans h.f0, (h2 T 1 l hq).trans h.f1, (h2 T 2 l hq).trans h.f2, (h2 T 3 l hq).trans h.f3, (h2 T 4 l hq).trans h.f4, (h2 T 5 l hq).trans h.f5⟩
theorem Ar2.other (h : Ar2 w T a0 n0 k0 p0 i0 a1 n1 k1 p1 i1) (hq : T ≠ q) (i : Nat) (v : Value) : Ar2 (w.setCell ⟨q, i, none⟩ v) T a0 n0 k0 p0 i0 a1 n1 k1 p1 i1 := by
  have hb : (w.setCell ⟨q, i, none⟩ v).heap[T]? = w.heap[T]? := Below.heap_setCell _ _ _ _ hq
  have hc : ∀ j, (w.setCell ⟨q, i, none⟩ v).cell? ⟨T, j, none⟩ = w.cell? ⟨T, j, none⟩ := fun j => World.cell?_of_block (w := w) (a := ⟨T, j, none⟩) hb
  have hf : ∀ j, (w.setCell ⟨q, i, none⟩ v).frozen? ⟨T, j, none⟩ = w.frozen? ⟨T, j, none⟩ := fun j => World.frozen?_of_block (w := w) (a := ⟨T, j, none⟩) hb
  exact ⟨(hc 0).trans h.c0, (hc 1).trans h.c1, (hc 2).trans h.c2, (hc 3).trans h.c3, (hc 4).trans h.c4, (hc 5).trans h.c5, (hf 0).trans h.f0, (hf 1).trans h.f1, (hf 2).trans h.f2, (hf 3).trans h.f3, (hf 4).trans h.f4, (hf 5).trans h.f5⟩
theorem Ar2.put0 (h : Ar2 w T a0 n0 k0 p0 i0 a1 n1 k1 p1 i1) (a : Option Addr) (n k : Nat) (p i : Int) : Ar2 (((w.setCell ⟨T, 0, none⟩ (.slice a n k)).setCell ⟨T, 1, none⟩ (.int .i64 p)).setCell ⟨T, 2, none⟩ (.int .i64 i)) T a n k p i a1 n1 k1 p1 i1 := by
  obtain ⟨c0, c1, c2, c3, c4, c5, f0, f1, f2, f3, f4, f5⟩ := h
  exact ⟨by go_simp, by go_simp, by go_simp, by go_simp, by go_simp, by go_simp, by go_simp, by go_simp, by go_simp, by go_simp, by go_simp, by go_simp⟩
theorem Ar2.put1 (h : Ar2 w T a0 n0 k0 p0 i0 a1 n1 k1 p1 i1) (a : Option Addr) (n k : Nat) (p i : Int) : Ar2 (((w.setCell ⟨T, 3, none⟩ (.slice a n k)).setCell ⟨T, 4, none⟩ (.int .i64 p)).setCell ⟨T, 5, none⟩ (.int .i64 i)) T a0 n0 k0 p0 i0 a n k p i := by
  obtain ⟨c0, c1, c2, c3, c4, c5, f0, f1, f2, f3, f4, f5⟩ := h
  exact ⟨by go_simp, by go_simp, by go_simp, by go_simp, by go_simp, by go_simp, by go_simp, by go_simp, by go_simp, by go_simp, by go_simp, by go_simp⟩
end

/-- A made curve in a row behind the array. -/
structure Md (w : World) (T : Nat) (a : Option Addr) (n k : Nat) (p i : Int) (zs : List Int) : Prop where
  row : RowZ w a n k zs
  far : ∀ x, a = some x → T < x.block
  p1 : p = 1
  sink : Sink zs i
  few : zs.length ≤ 8

section
variable {w : World} {T : Nat} {a0 a1 : Option Addr} {n0 k0 n1 k1 : Nat} {p0 i0 p1 i1 : Int} {z0 z1 : List Int}
theorem Md.good (h : Md w T a0 n0 k0 p0 i0 z0) : Good z0 1 i0 := h.sink.good (by have := h.few; omega)
theorem Md.under {v : World} (h : Md w T a0 n0 k0 p0 i0 z0) (hb : Below w.heap.size w v) : Md v T a0 n0 k0 p0 i0 z0 := ⟨h.row.under hb, h.far, h.p1, h.sink, h.few⟩
theorem md_lcm (h : Md w T a0 n0 k0 p0 i0 z0) (k : Md w T a1 n1 k1 p1 i1 z1) : ∃ L, L ≤ 120 ∧ LcmN z0 1 i0 z1 1 i1 L := lcm_small h.good k.good (by omega) (by omega)
theorem cof_k (h : Md w T a0 n0 k0 p0 i0 z0) (k : Md w T a1 n1 k1 p1 i1 z1) : Calls Try.prog 22 #[curV a0 n0 k0 p0 i0, curV a1 n1 k1 p1 i1] w (GivesE (eMin z0 1 i0 z1 1 i1) w) := by
  obtain ⟨L, hl, hL⟩ := md_lcm h k
  obtain rfl := h.p1
  obtain rfl := k.p1
  rw [← conv_min_conc (h.sink.fin (by have := h.few; omega)) (k.sink.fin (by have := k.few; omega)) (h.sink.conc (by have := h.few; omega)) (k.sink.conc (by have := k.few; omega))]
  exact cof_ok a0 n0 k0 z0 1 i0 h.good a1 n1 k1 z1 1 i1 k.good L hL hl w h.row k.row
theorem rmin_k (h : Md w T a0 n0 k0 p0 i0 z0) (k : Md w T a1 n1 k1 p1 i1 z1) : Calls Try.prog 36 #[curV a0 n0 k0 p0 i0, curV a1 n1 k1 p1 i1] w (GivesE (eMin z0 1 i0 z1 1 i1) w) := by
  obtain ⟨L, hl, hL⟩ := md_lcm h k
  obtain rfl := h.p1
  obtain rfl := k.p1
  exact rmin_ok a0 n0 k0 z0 1 i0 h.good a1 n1 k1 z1 1 i1 k.good L hL hl w h.row k.row
end

/-- What stands at the head of the outer loop. -/
structure Ct (u1 : World) (b : Nat) (ra : Option Addr) (rn rc : Nat) (i : Int) (wx : World) : Prop where
  held : Held u1 b ra rn rc wx
  arr : ∃ a0 n0 k0 p0 i0 a1 n1 k1 p1 i1, Ar2 wx u1.heap.size a0 n0 k0 p0 i0 a1 n1 k1 p1 i1 ∧ (1 ≤ i → ∃ zs, Md wx u1.heap.size a0 n0 k0 p0 i0 zs) ∧ (2 ≤ i → ∃ zs, Md wx u1.heap.size a1 n1 k1 p1 i1 zs)

set_option maxRecDepth 100000 in
set_option maxHeartbeats 6400000 in
theorem convolutionConcave_walk (W : World) (a : Option Addr) (n cap : Nat) (hrow : RowAt W a n cap) :
    Calls Try.prog 9 #[.slice a n cap] W fun e w' => e = .returned (.bool true) ∧ Below W.heap.size W w' := by
  have HR := Lib.hid hrow
  clear hrow
  obtain ⟨i0, hi0, hz0, hz1, hz2⟩ := info_parts info_int
  go_enter Try.func9, Try.ntmps9
  go_wp2_with fail
  refine (new_any a n cap _ HR.out).mono ?_
  rintro e u1 ⟨rfl, hb1, hz1, ra, rn, rc, hs1⟩
  have HB1 := Lib.hid hb1
  have HS1 := Lib.hid hs1
  have Z1 := Lib.hid hz1
  clear hb1 hz1 hs1
  go_wp2_with fail
  go_loopw [15] (fun s15 wx => ∃ i : Int, s15 = .int .i64 i ∧ (0 ≤ i ∧ i ≤ 2) ∧ Hid (Ct u1 W.heap.size ra rn rc i wx)) (fun s15 _ => (2 - intOf s15).toNat)
  case atStart => exact ⟨0, by go_num, by omega, ⟨(Held.start HS1.out).alloc _, none, 0, 0, 0, 0, none, 0, 0, 0, 0, ⟨by go_simp, by go_simp, by go_simp, by go_simp, by go_simp, by go_simp, by go_simp, by go_simp, by go_simp, by go_simp, by go_simp, by go_simp⟩, fun h => absurd h (by omega), fun h => absurd h (by omega)⟩⟩
  case round =>
    obtain ⟨i, rfl, hi, HC⟩ := hrel
    obtain ⟨wt, rfl⟩ : ∃ u : World, u = wr := ⟨_, rfl⟩
    have HSx := Lib.hid (HC.out.held.at HS1.out)
    by_cases hlti : i < 2
    · 
      go_wp2_with fail
      obtain ⟨w2, hw2⟩ : ∃ u, (wt.alloc (.cells #[.int .i64 0] 3)).alloc (.cells #[.slice (some ⟨wt.heap.size, 0, none⟩) 1 1, .int .i64 1, .int .i64 0] 24) = u := ⟨_, rfl⟩
      have Q0 := Lib.hid (show Cv7 wt W.heap.size ra rn rc (wt.heap.size + 1) wt.heap.size 1 1 [0] w2 by rw [← hw2]; exact Cv7.new wt HSx.out)
      rw [hw2]
      clear hw2
      refine (n_any 30 (by omega) (by omega) _ ra rn rc _ (Q0.out.held.at HSx.out)).mono ?_
      rintro e u3 ⟨r3, ⟨r30, r31⟩, rfl, hs3, he3⟩
      have t1 : IntKind.i64.wrap ((10 : Int) + r3) = 10 + r3 := IntWalk.i64_in _ ⟨by omega, by omega⟩
      have Q1 := Lib.hid (Q0.out.call hs3 he3.apart)
      clear hs3 he3
      go_wp2_with fail
      refine (n_any 5 (by omega) (by omega) _ ra rn rc _ (Q1.out.held.at HSx.out)).mono ?_
      rintro e u4 ⟨r4, ⟨r40, r41⟩, rfl, hs4, he4⟩
      have Q2 := Lib.hid (Q1.out.call hs4 he4.apart)
      clear hs4 he4
      obtain ⟨sA, hsA⟩ : ∃ s, (10 : Int) + r3 = s := ⟨_, rfl⟩
      have SK := Lib.hid (show Sink [0] sA from Sink.start (by omega) (by omega))
      go_wp2_with fail
      go_loopw [7, 8] (fun s7 s8 wx => ∃ (N g1 cap1 : Nat) (zs : List Int) (k st : Int), s7 = .int .i64 st ∧ s8 = .int .i64 k ∧ (-1 ≤ k ∧ k ≤ 4) ∧ (N : Int) + k ≤ 5 ∧ 1 ≤ N ∧ Hid (Sink zs st) ∧ Hid (Cv7 wt W.heap.size ra rn rc (wt.heap.size + 1) g1 N cap1 zs wx)) (fun _ s8 _ => (intOf s8 + 1).toNat)
      case atStart => exact ⟨1, wt.heap.size, 1, [0], r4, sA, rfl, rfl, by omega, by omega, by omega, SK, Q2⟩
      case round =>
        obtain ⟨N, g1, cap1, zs, k, st, rfl, rfl, hk, hNk, hN1, hsink, QL⟩ := hrel
        obtain ⟨w5, rfl⟩ : ∃ u : World, u = wr := ⟨_, rfl⟩
        by_cases hk0 : (0 : Int) ≤ k
        · obtain ⟨j, hj⟩ : ∃ j, N = j + 1 := ⟨N - 1, by omega⟩
          obtain ⟨l, hl⟩ : ∃ l, zs.getD j 0 = l := ⟨_, rfl⟩
          have hlen := QL.out.len
          have hlb := hsink.out.bd j (by omega)
          rw [hl] at hlb
          have hjN : j ≤ 8 := by omega
          have hst0 := hsink.out.s0
          have hst1 := hsink.out.s1
          have hcj : w5.cell? ⟨g1, j, none⟩ = some (.int .i64 l) := by rw [← hl]; exact owns_cell QL.out.row (by omega)
          have s1 : (N : Int) - 1 = (j : Int) := by omega
          have s2 : IntKind.i64.wrap ((N : Int) - 1) = (j : Int) := by rw [s1]; exact IntWalk.i64_in _ ⟨by omega, by omega⟩
          have s3 : (0 : Int) ≤ (j : Int) := by omega
          have s5 : IntKind.i64.wrap (j : Int) = (j : Int) := IntWalk.i64_in _ ⟨by omega, by omega⟩
          have s4 : (j : Int) < (N : Int) := by omega
          have s6 : IntKind.i64.wrap (l + st) = l + st := IntWalk.i64_in _ ⟨by omega, by omega⟩
          have HL := Lib.hid (And.intro hl (And.intro hlen hj))
          have HX := Lib.hid (And.intro hlb (And.intro hst0 hst1))
          have c0 := QL.out.box.c0
          clear hl hlen hj hlb hst0 hst1
          go_wp2_with fail
          refine wp_region_keeps (fun u => u.cell? ⟨wt.heap.size + 1, 0, none⟩ = some (.slice (some ⟨g1, 0, none⟩) N cap1) ∧ u.cell? ⟨g1, j, none⟩ = some (.int .i64 l)) 13 3 (by kernel_rfl) (by kernel_rfl) ⟨c0, hcj⟩ (fun hHeld => ?_)
          refine wpAnyK_take (i := 0) (v := ?_) rfl (by kernel_rfl) (fun _ _ _ h => h) (Or.inl ⟨by rfl, ?_⟩) (by assumption) ?_
          rotate_left
          · (intro w hSw; (try dsimp only at hSw); go_simp; try with_reducible rfl)
          try simp only [Act.put, List.getElem_toArray, List.getElem_cons_zero, List.getElem_cons_succ, List.setIfInBounds_toArray, List.set_cons_zero, List.set_cons_succ]
          refine wpAnyK_take (i := 1) (v := ?_) rfl (by kernel_rfl) (fun _ _ _ h => h) (Or.inl ⟨by rfl, ?_⟩) (by assumption) ?_
          rotate_left
          · (intro w hSw; (try dsimp only at hSw); go_simp; try with_reducible rfl)
          try simp only [Act.put, List.getElem_toArray, List.getElem_cons_zero, List.getElem_cons_succ, List.setIfInBounds_toArray, List.set_cons_zero, List.set_cons_succ]
          refine wpAnyK_take (i := 2) (v := ?_) rfl (by kernel_rfl) (fun _ _ _ h => h) (Or.inl ⟨by rfl, ?_⟩) (by assumption) ?_
          rotate_left
          · (intro w hSw; (try dsimp only at hSw); go_simp; try with_reducible rfl)
          try simp only [Act.put, List.getElem_toArray, List.getElem_cons_zero, List.getElem_cons_succ, List.setIfInBounds_toArray, List.set_cons_zero, List.set_cons_succ]
          refine wpAnyK_take (i := 3) (v := ?_) rfl (by kernel_rfl) (fun _ _ _ h => h) (Or.inl ⟨by rfl, ?_⟩) (by assumption) ?_
          rotate_left
          · (intro w hSw; (try dsimp only at hSw); go_simp; try with_reducible rfl)
          try simp only [Act.put, List.getElem_toArray, List.getElem_cons_zero, List.getElem_cons_succ, List.setIfInBounds_toArray, List.set_cons_zero, List.set_cons_succ]
          refine wpAnyK_take (i := 4) (v := ?_) rfl (by kernel_rfl) (fun _ _ _ h => h) (Or.inl ⟨by rfl, ?_⟩) (by assumption) ?_
          rotate_left
          · (intro w hSw; (try dsimp only at hSw); go_simp; try with_reducible rfl)
          try simp only [Act.put, List.getElem_toArray, List.getElem_cons_zero, List.getElem_cons_succ, List.setIfInBounds_toArray, List.set_cons_zero, List.set_cons_succ]
          refine wpAnyK_take (i := 5) (v := ?_) rfl (by kernel_rfl) (fun _ _ _ h => h) (Or.inl ⟨by rfl, ?_⟩) (by assumption) ?_
          rotate_left
          · (intro w hSw; (try dsimp only at hSw); go_simp; try with_reducible rfl)
          try simp only [Act.put, List.getElem_toArray, List.getElem_cons_zero, List.getElem_cons_succ, List.setIfInBounds_toArray, List.set_cons_zero, List.set_cons_succ]
          refine wpAnyK_take (i := 6) (v := ?_) rfl (by kernel_rfl) (fun _ _ _ h => h) (Or.inl ⟨by rfl, ?_⟩) (by assumption) ?_
          rotate_left
          · (intro w hSw; (try dsimp only at hSw); go_simp; try with_reducible rfl)
          try simp only [Act.put, List.getElem_toArray, List.getElem_cons_zero, List.getElem_cons_succ, List.setIfInBounds_toArray, List.set_cons_zero, List.set_cons_succ]
          refine wpAnyK_take (i := 7) (v := ?_) rfl (by kernel_rfl) (fun _ _ _ h => h) (Or.inl ⟨by rfl, ?_⟩) (by assumption) ?_
          rotate_left
          · (intro w hSw; (try dsimp only at hSw); go_simp; try with_reducible rfl)
          try simp only [Act.put, List.getElem_toArray, List.getElem_cons_zero, List.getElem_cons_succ, List.setIfInBounds_toArray, List.set_cons_zero, List.set_cons_succ]
          refine wpAnyK_take (i := 8) (v := ?_) rfl (by kernel_rfl) (fun _ _ _ h => h) (Or.inl ⟨by rfl, ?_⟩) (by assumption) ?_
          rotate_left
          · (intro w hSw; (try dsimp only at hSw); go_simp; try with_reducible rfl)
          try simp only [Act.put, List.getElem_toArray, List.getElem_cons_zero, List.getElem_cons_succ, List.setIfInBounds_toArray, List.set_cons_zero, List.set_cons_succ]
          refine wpAnyK_take (i := 9) (v := ?_) rfl (by kernel_rfl) (fun _ _ _ h => h) (Or.inl ⟨by rfl, ?_⟩) (by assumption) ?_
          rotate_left
          · (intro w hSw; (try dsimp only at hSw); go_simp; try with_reducible rfl)
          try simp only [Act.put, List.getElem_toArray, List.getElem_cons_zero, List.getElem_cons_succ, List.setIfInBounds_toArray, List.set_cons_zero, List.set_cons_succ]
          refine wpAnyK_take (i := 10) (v := ?_) rfl (by kernel_rfl) (fun _ _ _ h => h) (Or.inl ⟨by rfl, ?_⟩) (by assumption) ?_
          rotate_left
          · (intro w hSw; (try dsimp only at hSw); go_simp; try with_reducible rfl)
          try simp only [Act.put, List.getElem_toArray, List.getElem_cons_zero, List.getElem_cons_succ, List.setIfInBounds_toArray, List.set_cons_zero, List.set_cons_succ]
          refine wpAnyK_take (i := 11) (v := ?_) rfl (by kernel_rfl) (fun _ _ _ h => h) (Or.inl ⟨by rfl, ?_⟩) (by assumption) ?_
          rotate_left
          · (intro w hSw; (try dsimp only at hSw); go_simp; try with_reducible rfl)
          try simp only [Act.put, List.getElem_toArray, List.getElem_cons_zero, List.getElem_cons_succ, List.setIfInBounds_toArray, List.set_cons_zero, List.set_cons_succ]
          refine wpAnyK_step (i := 12) rfl (by kernel_rfl) (fun K hK => ?_)
          go_simp
          refine hK.out _ _ ⟨(((Below.refl _ _).alloc (Nat.le_refl _) _).cell (p := ⟨wt.heap.size + 1, 0, none⟩) (lt_of_cell c0)).trans c0, (((Below.refl _ _).alloc (Nat.le_refl _) _).cell (p := ⟨g1, j, none⟩) (lt_of_cell hcj)).trans hcj⟩ (fun hHeld2 => ?_)
          clear hK K hHeld
          try simp only [Act.put, List.setIfInBounds_toArray, List.set_cons_zero, List.set_cons_succ]
          refine wpAnyK_done (by kernel_rfl) ?_
          simp only [List.drop_succ_cons, List.drop_zero]
          have HO7 : Hid ((w5.alloc (.cells #[.int .i64 (l + st)] 3)).drew.ownsRow wt.heap.size 3 1 (.slice (some ⟨g1, 0, none⟩) N cap1) N (zs.map (Value.int .i64))) := Lib.hid (QL.out.row.alloc _)
          have HN7 : Hid (∀ j u, [Value.int .i64 (l + st)][j]? = some u → (w5.alloc (.cells #[.int .i64 (l + st)] 3)).drew.cell? ((⟨w5.heap.size, 0, none⟩ : Addr).add j) = some u) := Lib.hid (World.news_of_block (cs := #[.int .i64 (l + st)]) (t := 3) (fr := (0, 0)) (heap_alloc_new w5 _))
          have Q7 := Lib.hid (QL.out.alloc (.cells #[.int .i64 (l + st)] 3)).drew
          clear hHeld2 c0 hcj
          generalize (w5.alloc (.cells #[.int .i64 (l + st)] 3)).drew = w7 at HO7 HN7 Q7 ⊢
          go_wp2_with (at_builtin; refine wpList_append_lies _ rfl _ _ 22 rfl wt.heap.size 3 i0 (.int .i64 0) 1 8 Try.underlying22 hi0 hz0 hz1 hz2 rfl (by decide) (.slice (some ⟨g1, 0, none⟩) N cap1) N (zs.map (Value.int .i64)) rfl HO7.out ⟨w5.heap.size, 0, none⟩ 1 1 [.int .i64 (l + st)] rfl rfl HN7.out ?l2 (by omega) ?l3 ?l4 ?l5 _ rfl ?_)
          case l2 => intro u hu; simp at hu; subst hu; rfl
          case l3 => unfold maxLen; omega
          case l4 => omega
          case l5 => have h1 := Q7.out.held.ap.size; omega
          intro g2 cap2 w8 hown1 hgrow hat hlt8
          have hat2 := hatOf hat
          have hbox8 := Q7.out.box.grownS hgrow Q7.out.gG
          have Q8 := Lib.hid (Q7.out.grow hown1 hgrow hat2)
          clear hown1 hgrow hat hat2 hlt8
          obtain ⟨d0, d1, d2, e0, e1, e2⟩ := hbox8
          go_wp2_with fail
          clear d0 d1 d2 e0 e1 e2
          refine (n_any 12 (by omega) (by omega) _ ra rn rc _ (Q8.out.held.at HSx.out)).mono ?_
          rintro e u9 ⟨r9, ⟨r90, r91⟩, rfl, hs9, he9⟩
          have Q9 := Lib.hid (Q8.out.call hs9 he9.apart)
          clear hs9 he9 Q8 Q7
          obtain ⟨⟨hx1, hx2⟩, hx3, hx4⟩ := HX.out
          have t9 : IntKind.i64.wrap (st - r9) = st - r9 := IntWalk.i64_in _ ⟨by omega, by omega⟩
          have t8 : IntKind.i64.wrap (k - 1) = k - 1 := IntWalk.i64_in _ ⟨by omega, by omega⟩
          by_cases hm : (0 : Int) < st - r9
          · have HG := Lib.hid (show Sink (zs ++ [l + st]) (st - r9) by
              have := hsink.out.grow (st2 := st - r9) (by omega) (by omega) (N := j) (by have := HL.out; omega)
              rwa [HL.out.1] at this)
            go_wp2_with fail
            go_roundw
            case rel => exact ⟨N + 1, g2, cap2, zs ++ [l + st], k - 1, st - r9, rfl, rfl, by omega, by omega, by omega, HG, Q9⟩
            case measure => simp [intOf]; omega
          · have HG := Lib.hid (show Sink (zs ++ [l + st]) 0 by
              have := hsink.out.grow (st2 := 0) (by omega) (by omega) (N := j) (by have := HL.out; omega)
              rwa [HL.out.1] at this)
            go_wp2_with fail
            go_roundw
            case rel => exact ⟨N + 1, g2, cap2, zs ++ [l + st], k - 1, 0, rfl, rfl, by omega, by omega, by omega, HG, Q9⟩
            case measure => simp [intOf]; omega
        · have hkm : k = -1 := by omega
          have hb0 := QL.out.box
          have hln := QL.out.len
          obtain ⟨a9, cap9, hv9, R9, X9⟩ := rowZ_of_owns QL.out.row (by omega) (fun m hm => by have := hsink.out.bd m hm; exact ⟨by omega, by omega⟩)
          obtain ⟨rfl, rfl⟩ : some ⟨g1, 0, none⟩ = a9 ∧ cap1 = cap9 := by cases hv9; exact ⟨rfl, rfl⟩
          obtain ⟨a0, n0, k0, p0, j0, a1, n1, k1, p1, j1, har, hm0, hm1⟩ := HC.out.arr
          have hTne : ¬ u1.heap.size = W.heap.size := by have := Z1.out; omega
          have hTlt := har.lt
          have har5 := har.apart QL.out.held.ap hTne
          have hgw := QL.out.glt
          have hgF := QL.out.gG
          have HD5 := Lib.hid (HC.out.held.call (QL.out.held.at HSx.out) QL.out.held.ap)
          have h1F : u1.heap.size ≤ wt.heap.size + 1 := by omega
          have HW1 := Lib.hid (show W.heap.size < u1.heap.size by have := Z1.out; omega)
          have MK := Lib.hid (show Sink zs st ∧ zs.length ≤ 8 from ⟨hsink.out, by omega⟩)
          rcases (show i = 0 ∨ i = 1 by omega) with rfl | rfl
          · have HA5 := Lib.hid har5
            have CN := Lib.hid (show Ct u1 W.heap.size ra rn rc 1 ((((w5.setCell ⟨wt.heap.size + 1, 2, none⟩ (.int .i64 st)).setCell ⟨u1.heap.size, 0, none⟩ (.slice (some ⟨g1, 0, none⟩) N cap1)).setCell ⟨u1.heap.size, 1, none⟩ (.int .i64 1)).setCell ⟨u1.heap.size, 2, none⟩ (.int .i64 st)) from
              ⟨(((HD5.out.set HW1.out (p := ⟨wt.heap.size + 1, 2, none⟩) h1F _).set HW1.out (p := ⟨u1.heap.size, 0, none⟩) (Nat.le_refl _) _).set HW1.out (p := ⟨u1.heap.size, 1, none⟩) (Nat.le_refl _) _).set HW1.out (p := ⟨u1.heap.size, 2, none⟩) (Nat.le_refl _) _,
              some ⟨g1, 0, none⟩, N, cap1, 1, st, a1, n1, k1, p1, j1, (HA5.out.other (by omega) 2 _).put0 _ _ _ _ _, fun _ => ⟨zs, (((R9.store (fun x hx _ => by cases hx; exact hgF) _ _).store (fun x hx _ => by cases hx; show g1 ≠ _; omega) _ _).store (fun x hx _ => by cases hx; show g1 ≠ _; omega) _ _).store (fun x hx _ => by cases hx; show g1 ≠ _; omega) _ _, fun x hx => by cases hx; show _ < g1; omega, rfl, MK.out.1, MK.out.2⟩, fun h => absurd h (by omega)⟩)
            obtain ⟨d0, d1, d2, e0, e1, e2⟩ := hb0
            obtain ⟨c0, c1, c2, c3, c4, c5, f0, f1, f2, f3, f4, f5⟩ := har5
            clear hm0 hm1 R9 X9 har hv9
            go_wp2_with fail
            go_roundw
            case rel => exact ⟨1, rfl, by omega, CN⟩
            case measure => simp [intOf]
          · have HA5 := Lib.hid har5
            obtain ⟨z0, M0⟩ := hm0 (by omega)
            have q0 : ∀ x, a0 = some x → ¬ x.block = W.heap.size := fun x hx => by have := M0.far x hx; have := HW1.out; omega
            have r0 := M0.row.apart QL.out.held.ap q0
            have far0 := M0.row.far
            have CN := Lib.hid (show Ct u1 W.heap.size ra rn rc 2 ((((w5.setCell ⟨wt.heap.size + 1, 2, none⟩ (.int .i64 st)).setCell ⟨u1.heap.size, 3, none⟩ (.slice (some ⟨g1, 0, none⟩) N cap1)).setCell ⟨u1.heap.size, 4, none⟩ (.int .i64 1)).setCell ⟨u1.heap.size, 5, none⟩ (.int .i64 st)) from
              ⟨(((HD5.out.set HW1.out (p := ⟨wt.heap.size + 1, 2, none⟩) h1F _).set HW1.out (p := ⟨u1.heap.size, 3, none⟩) (Nat.le_refl _) _).set HW1.out (p := ⟨u1.heap.size, 4, none⟩) (Nat.le_refl _) _).set HW1.out (p := ⟨u1.heap.size, 5, none⟩) (Nat.le_refl _) _,
              a0, n0, k0, p0, j0, some ⟨g1, 0, none⟩, N, cap1, 1, st, (HA5.out.other (by omega) 2 _).put1 _ _ _ _ _, fun _ => ⟨z0, (((r0.store (fun x hx hn => by have := far0 x hx hn; omega) _ _).store (fun x hx _ => by have := M0.far x hx; omega) _ _).store (fun x hx _ => by have := M0.far x hx; omega) _ _).store (fun x hx _ => by have := M0.far x hx; omega) _ _, M0.far, M0.p1, M0.sink, M0.few⟩, fun _ => ⟨zs, (((R9.store (fun x hx _ => by cases hx; exact hgF) _ _).store (fun x hx _ => by cases hx; show g1 ≠ _; omega) _ _).store (fun x hx _ => by cases hx; show g1 ≠ _; omega) _ _).store (fun x hx _ => by cases hx; show g1 ≠ _; omega) _ _, fun x hx => by cases hx; show _ < g1; omega, rfl, MK.out.1, MK.out.2⟩⟩)
            obtain ⟨d0, d1, d2, e0, e1, e2⟩ := hb0
            obtain ⟨c0, c1, c2, c3, c4, c5, f0, f1, f2, f3, f4, f5⟩ := har5
            clear hm0 hm1 R9 X9 har hv9 q0 r0 far0 M0
            go_wp2_with fail
            go_roundw
            case rel => exact ⟨2, rfl, by omega, CN⟩
            case measure => simp [intOf]
    · have HBE := Lib.hid (HB1.out.trans (HC.out.held.ap.below (Nat.le_refl _) HB1.out.size))
      obtain ⟨a0, n0, k0, p0, j0, a1, n1, k1, p1, j1, har, hm0, hm1⟩ := HC.out.arr
      obtain ⟨z0, M0⟩ := hm0 (by omega)
      obtain ⟨z1, M1⟩ := hm1 (by omega)
      have HT := Lib.hid (show ¬ u1.heap.size = wt.heap.size by have := har.lt; omega)
      have HAr := Lib.hid har
      have HM0 := Lib.hid M0
      have HM1 := Lib.hid M1
      have EDGE := Lib.hid har.lt
      clear har hm0 hm1 M0 M1
      by_cases hc : ECan (eMin z0 1 j0 z1 1 j1)
      · have HK := Lib.hid hc
        clear hc
        obtain ⟨c0, c1, c2, c3, c4, c5, f0, f1, f2, f3, f4, f5⟩ := HAr.out
        go_wp2_with fail
        clear c0 c1 c2 c3 c4 c5 f0 f1 f2 f3 f4 f5
        with_reducible refine ((cof_k HM0.out HM1.out).mono fun _ _ h => h.ok HK.out).mono ?_
        rintro e v11 ⟨a11, n11, cap11, z11, p11, i11, rfl, hb, hr, hf, hx⟩
        obtain ⟨w11, hw⟩ : ∃ W, v11.alloc (.cells #[.slice a11 n11 cap11, .int .i64 p11, .int .i64 i11] 24) = W := ⟨_, rfl⟩
        have hz : Below wt.heap.size wt w11 := by rw [← hw]; exact hb.trans ((below_box _).mono hb.size)
        have AR_11 := Lib.hid (HAr.out.apart (below_apart hz) HT.out)
        have M0_11 := Lib.hid (HM0.out.under hz)
        have M1_11 := Lib.hid (HM1.out.under hz)
        have HB_11 := Lib.hid (HBE.out.trans (hz.mono HBE.out.size))
        have Xy_11 := Lib.hid (show Bx w11 v11.heap.size a11 n11 cap11 p11 i11 z11 by rw [← hw]; exact Bx.new hr)
        have HFy := Lib.hid hf
        have hw11 := hw
        clear hb hr hf hx hz hw
        obtain ⟨c0, c1, c2, c3, c4, c5, f0, f1, f2, f3, f4, f5⟩ := AR_11.out
        go_wp2_with fail
        try rw [hw11]
        clear hw11
        clear c0 c1 c2 c3 c4 c5 f0 f1 f2 f3 f4 f5
        with_reducible refine ((rmin_k M0_11.out M1_11.out).mono fun _ _ h => h.ok HK.out).mono ?_
        rintro e v12 ⟨a12, n12, cap12, z12, p12, i12, rfl, hb, hr, hf, hx⟩
        obtain ⟨w12, hw⟩ : ∃ W, v12.alloc (.cells #[.slice a12 n12 cap12, .int .i64 p12, .int .i64 i12] 24) = W := ⟨_, rfl⟩
        have hz : Below w11.heap.size w11 w12 := by rw [← hw]; exact hb.trans ((below_box _).mono hb.size)
        have AR_12 := Lib.hid (AR_11.out.apart (below_apart hz) HT.out)
        have M0_12 := Lib.hid (M0_11.out.under hz)
        have M1_12 := Lib.hid (M1_11.out.under hz)
        have Xy_12 := Lib.hid (Xy_11.out.under hz)
        have HB_12 := Lib.hid (HB_11.out.trans (hz.mono HB_11.out.size))
        have Xz_12 := Lib.hid (show Bx w12 v12.heap.size a12 n12 cap12 p12 i12 z12 by rw [← hw]; exact Bx.new hr)
        have HFz := Lib.hid hf
        have hw12 := hw
        clear hb hr hf hx hz hw
        obtain ⟨c0, c1, c2, c3, c4, c5⟩ := Xy_12.out.box
        obtain ⟨d0, d1, d2, d3, d4, d5⟩ := Xz_12.out.box
        go_wp2_with fail
        try rw [hw12]
        clear hw12
        clear c0 c1 c2 c3 c4 c5 d0 d1 d2 d3 d4 d5
        with_reducible refine (same_at HFy.out HFz.out _ Xy_12.out.row Xz_12.out.row).mono ?_
        rintro e w13 ⟨rfl, hb⟩
        have AR_13 := Lib.hid (AR_12.out.apart (below_apart hb) HT.out)
        have M0_13 := Lib.hid (M0_12.out.under hb)
        have M1_13 := Lib.hid (M1_12.out.under hb)
        have Xy_13 := Lib.hid (Xy_12.out.under hb)
        have Xz_13 := Lib.hid (Xz_12.out.under hb)
        have HB_13 := Lib.hid (HB_12.out.trans (hb.mono HB_12.out.size))
        have SY13 := Lib.hid hb.size
        clear hb
        go_wp2_with fail
        with_reducible refine (awake7 _).mono ?_
        rintro e w14 ⟨rfl, hb⟩
        have HBZ := Lib.hid (HB_13.out.trans (hb.mono HB_13.out.size))
        clear hb
        go_wp2_with fail
        go_ret
        exact ⟨rfl, HBZ.out⟩
      · have HK := Lib.hid hc
        clear hc
        obtain ⟨c0, c1, c2, c3, c4, c5, f0, f1, f2, f3, f4, f5⟩ := HAr.out
        go_wp2_with fail
        clear c0 c1 c2 c3 c4 c5 f0 f1 f2 f3 f4 f5
        with_reducible refine ((cof_k HM0.out HM1.out).mono fun _ _ h => h.no HK.out).mono ?_
        rintro e v11 ⟨rfl, hb⟩
        obtain ⟨w11, hw⟩ : ∃ W, v11.alloc (.cells #[.slice none 0 0, .int .i64 0, .int .i64 0] 24) = W := ⟨_, rfl⟩
        have hz : Below wt.heap.size wt w11 := by rw [← hw]; exact hb.trans ((below_box _).mono hb.size)
        have AR_11 := Lib.hid (HAr.out.apart (below_apart hz) HT.out)
        have M0_11 := Lib.hid (HM0.out.under hz)
        have M1_11 := Lib.hid (HM1.out.under hz)
        have HB_11 := Lib.hid (HBE.out.trans (hz.mono HBE.out.size))
        have Xy_11 := Lib.hid (show Bx w11 v11.heap.size none 0 0 ((0 : Nat)) 0 [] by rw [← hw]; exact Bx.new (rowZ_none _))
        have HWK11 := Lib.hid hw
        clear hb hz hw
        obtain ⟨c0, c1, c2, c3, c4, c5, f0, f1, f2, f3, f4, f5⟩ := AR_11.out
        go_upto_region 17 with fail
        try rw [HWK11.out]
        go_wp2_with fail
        clear c0 c1 c2 c3 c4 c5 f0 f1 f2 f3 f4 f5
        with_reducible refine ((rmin_k M0_11.out M1_11.out).mono fun _ _ h => h.no HK.out).mono ?_
        rintro e v12 ⟨rfl, hb⟩
        obtain ⟨w12, hw⟩ : ∃ W, v12.alloc (.cells #[.slice none 0 0, .int .i64 0, .int .i64 0] 24) = W := ⟨_, rfl⟩
        have hz : Below w11.heap.size w11 w12 := by rw [← hw]; exact hb.trans ((below_box _).mono hb.size)
        have AR_12 := Lib.hid (AR_11.out.apart (below_apart hz) HT.out)
        have M0_12 := Lib.hid (M0_11.out.under hz)
        have M1_12 := Lib.hid (M1_11.out.under hz)
        have Xy_12 := Lib.hid (Xy_11.out.under hz)
        have HB_12 := Lib.hid (HB_11.out.trans (hz.mono HB_11.out.size))
        have Xz_12 := Lib.hid (show Bx w12 v12.heap.size none 0 0 ((0 : Nat)) 0 [] by rw [← hw]; exact Bx.new (rowZ_none _))
        have HWK12 := Lib.hid hw
        clear hb hz hw
        go_upto_region 18 with fail
        try rw [HWK12.out]
        go_wp2_with fail
        with_reducible refine (awake7 _).mono ?_
        rintro e w13 ⟨rfl, hb⟩
        have HBZ := Lib.hid (HB_12.out.trans (hb.mono HB_12.out.size))
        clear hb
        go_wp2_with fail
        go_ret
        exact ⟨rfl, HBZ.out⟩

end Go.Proofs.Ytladmpoopfabdaa
