/- Of, Prove and Check of the convolution. By the verifier's side. | Check: its tests, and that it accepts what Prove returns. By the verifier's side. | Check of no certificate; the chapter's example; curves that are periodic by 24 ticks in the end. By the verifier's side. | The document's Minimum by its meaning. By the verifier's side. | The document's Later, Line and Flat. By the verifier's side. | Mathematics of the convolution of lines, without the program. By the verifier's side. -/
import Derived.Test.YthljhddnfflpjaaHConAD
import Derived.Test.YthljhddnfflpjaaHR5D
import Derived.Test.YthljhddnfflpjaaHCurX
import Derived.Test.YthljhddnfflpjaaHPwSPwU
import Derived.Test.YthljhddnfflpjaaHAppK
import Derived.Test.YthljhddnfflpjaaHPwOPwXR56MHpM
namespace Go.Proofs.Ythljhddnfflpjaa
open Go.RowKit
set_option linter.unusedSimpArgs false
set_option linter.unusedVariables false

end Go.Proofs.Ythljhddnfflpjaa

namespace Go.Proofs.Ythljhddnfflpjaa
open Go.RowKit
set_option linter.unusedSimpArgs false
set_option linter.unusedVariables false

section
variable {w u v : World} {cb rb pb hb tb la S1 : Nat} {G1 : Int} {lb S2 : Nat} {G2 : Int} {L lh Sh : Nat} {Gh : Int} {a : Option Addr} {n cap r : Nat} {knc : Int} {F ab N : Nat} {a5 : Option Addr} {n5 cap5 : Nat} {hs : List Int} {F1 F2 Fh : Nat → Int} {A : Nat → Nat}
end
end Go.Proofs.Ythljhddnfflpjaa

namespace Go.Proofs.Ythljhddnfflpjaa
open Go.RowKit
set_option linter.unusedSimpArgs false
set_option linter.unusedVariables false

section
variable (a1 : Option Addr) (n1 cap1 : Nat) (z1 : List Int) (p1 : Nat) (i1 : Int) (g1 : Good z1 p1 i1) (a2 : Option Addr) (n2 cap2 : Nat) (z2 : List Int) (p2 : Nat) (i2 : Int) (g2 : Good z2 p2 i2) (h1 : Day (eC z1 p1 i1)) (h2 : Day (eC z2 p2 i2))
    (w : World) (r1 : RowZ w a1 n1 cap1 z1) (r2 : RowZ w a2 n2 cap2 z2)
include g1 g2 h1 h2 r1 r2
end


end Go.Proofs.Ythljhddnfflpjaa

namespace Go.Proofs.Ythljhddnfflpjaa
open Go.RowKit
set_option linter.unusedSimpArgs false
set_option linter.unusedVariables false

section
variable {w u v : World} {A O R : Nat} {b1 : Option Addr} {m1 c1 q1 : Nat} {j1 : Int} {y1 : List Int} {b2 : Option Addr} {m2 c2 q2 : Nat} {j2 : Int} {y2 : List Int} {L g cap M : Nat} {f : Nat → Int} {inc : Int}
end

end Go.Proofs.Ythljhddnfflpjaa

namespace Go.Proofs.Ythljhddnfflpjaa
open Go.RowKit
set_option linter.unusedSimpArgs false
set_option linter.unusedVariables false

theorem made_list (d : Nat) : (madeCells #[Value.int .i64 0] d).toList = List.replicate d (Value.int .i64 0) := by
  apply List.ext_getElem
  · simp [madeCells]
  · intro i h1 h2
    simp [madeCells, Nat.mod_one]
theorem made_own (w : World) (base d : Nat) (hb : base ≤ w.heap.size) (hd : d ≤ 1000) : (w.alloc (.cells (madeCells #[.int .i64 0] d) 3)).ownsRow base 3 1 (.slice (some ⟨w.heap.size, 0, none⟩) d d) d (List.replicate d (Value.int .i64 0)) := by
  refine ⟨by simp, .inr ⟨w.heap.size, d, madeCells #[.int .i64 0] d, rfl, hb, heap_alloc_new w _, Nat.le_refl _, by unfold maxLen; omega, by rw [size_madeCells]; omega, ?_⟩⟩
  rw [made_list, Nat.mul_one, List.take_of_length_le (by simp)]

/-- What stands in Later. -/
structure DL (w : World) (A : Nat) (a : Option Addr) (n cap p : Nat) (inc : Int) (zs : List Int) (u : World) : Prop where
  x : Bx u A a n cap p inc zs
  res : Cur3 u (w.heap.size + 1) (.slice none 0 0) (.int .i64 0) (.int .i64 0)
  below : Below w.heap.size w u
  n1 : w.heap.size + 1 < A
theorem DL.call {w u v : World} {A : Nat} {a : Option Addr} {n cap p : Nat} {inc : Int} {zs : List Int} (h : DL w A a n cap p inc zs u) (hb : Below u.heap.size u v) : DL w A a n cap p inc zs v := ⟨h.x.under hb, h.res.below hb, h.below.trans (hb.mono h.below.size), h.n1⟩
/-- Behind the append: the curve's list may not be read any more. -/
structure DM (w : World) (A : Nat) (a : Option Addr) (n cap p : Nat) (inc : Int) (u : World) : Prop where
  xb : Cur3 u A (.slice a n cap) (.int .i64 p) (.int .i64 inc)
  res : Cur3 u (w.heap.size + 1) (.slice none 0 0) (.int .i64 0) (.int .i64 0)
  below : Below w.heap.size w u
theorem DM.call {w u v : World} {A : Nat} {a : Option Addr} {n cap p : Nat} {inc : Int} (h : DM w A a n cap p inc u) (hb : Below u.heap.size u v) : DM w A a n cap p inc v := ⟨h.xb.below hb, h.res.below hb, h.below.trans (hb.mono h.below.size)⟩
theorem DL.dm {w u : World} {A : Nat} {a : Option Addr} {n cap p : Nat} {inc : Int} {zs : List Int} (h : DL w A a n cap p inc zs u) : DM w A a n cap p inc u := ⟨h.x.box, h.res, h.below⟩
theorem DL.news {w u : World} {A : Nat} {a : Option Addr} {n cap p : Nat} {inc : Int} {zs : List Int} (h : DL w A a n cap p inc zs u) (hn : 1 ≤ n) : ∃ ad, a = some ad ∧ ∀ j v, (zs.map (Value.int .i64))[j]? = some v → u.cell? (ad.add j) = some v := by
  obtain ⟨ad, had, _⟩ := h.x.row.cell 0 (by omega)
  refine ⟨ad, had, fun j v hj => ?_⟩
  have hl := h.x.row.len
  have hjl : j < zs.length := by
    have := (List.getElem?_eq_some_iff.1 hj).1
    rwa [List.length_map] at this
  obtain ⟨x, hx1, hx2⟩ := h.x.row.cell j (by omega)
  obtain rfl : ad = x := by rw [had] at hx1; cases hx1; rfl
  rw [hx2]
  rw [List.getElem?_map, List.getElem?_eq_getElem hjl] at hj
  rw [List.getD_eq_getElem?_getD, List.getElem?_eq_getElem hjl]
  exact hj

set_option maxRecDepth 100000 in
set_option maxHeartbeats 6400000 in
theorem rlater_ok (a : Option Addr) (n cap : Nat) (zs : List Int) (p : Nat) (inc : Int) (g : Good zs p inc) (di : Int) (d : Nat) (hdi : di = d) (hd : d ≤ 400) (w : World) (h : RowZ w a n cap zs) :
    Calls Try.prog 22 #[curV a n cap p inc, .int .i64 di] w (GivesE (eLater d zs p inc) w) := by
  subst hdi
  obtain ⟨ii0, ihi, ihz0, ihz1, ihz2⟩ := info_parts info_int
  obtain ⟨W, hW⟩ : ∃ W, (w.alloc (.cells #[.slice a n cap, .int .i64 p, .int .i64 inc] 24)).alloc (.cells #[.slice none 0 0, .int .i64 0, .int .i64 0] 24) = W := ⟨_, rfl⟩
  have hB : Below w.heap.size w W := by rw [← hW]; exact ((Below.refl _ _).alloc (Nat.le_refl _) _).alloc (by simp) _
  have hWs : W.heap.size = w.heap.size + 2 := by rw [← hW]; simp
  have HB := Lib.hid hB
  have HWS := Lib.hid hWs
  have KR := Lib.hid (show Cur3 W (w.heap.size + 1) (.slice none 0 0) (.int .i64 0) (.int .i64 0) by rw [← hW]; exact Cur3.new2 w _ _ _ _ _)
  have HR := Lib.hid (h.under hB)
  have HG := Lib.hid g
  have HW := Lib.hid hW
  obtain ⟨c0, c1, c2, f0, f1, f2⟩ : Cur3 W w.heap.size (.slice a n cap) (.int .i64 p) (.int .i64 inc) := by rw [← hW]; exact (Cur3.new w _ _ _ _).alloc _
  clear hB hWs h g hW
  go_enter Try.func22, Try.ntmps22
  go_upto_region 1 with fail
  try rw [HW.out]
  go_wp2_with fail
  clear c0 c1 c2 f0 f1 f2
  refine (rnormal_ok a n cap zs p inc HG.out _ HR.out).mono ?_
  rintro e v1 ⟨a', n', cap', zs', p', inc', rfl, hb, hr, hn, hx⟩
  obtain ⟨W2, hw2⟩ : ∃ W', v1.alloc (.cells #[.slice a' n' cap', .int .i64 p', .int .i64 inc'] 24) = W' := ⟨_, rfl⟩
  have hz2 : Below v1.heap.size v1 W2 := by rw [← hw2]; exact below_box _
  obtain ⟨A, hA⟩ : ∃ A, v1.heap.size = A := ⟨_, rfl⟩
  have hAW : w.heap.size + 1 < A := by have := hb.size; have := HWS.out; omega
  have T2 := Lib.hid (show DL w A a' n' cap' p' inc' zs' W2 from ⟨by rw [← hw2, ← hA]; exact Bx.new hr, KR.out.below (hb.trans (hz2.mono hb.size)), HB.out.trans ((hb.trans (hz2.mono hb.size)).mono HB.out.size), hAW⟩)
  have T0 := Lib.hid (And.intro (T2.out.call (Below.refl _ _).drew) (show A + 1 ≤ W2.drew.heap.size from T2.out.x.box.lt))
  have GN := Lib.hid (hn.good HG.out)
  have HEE := Lib.hid (show eLater d zs' p' inc' = eLater d zs p inc by funext t; unfold eLater; simp only [(hn.eform HG.out).2.1])
  have HNL := Lib.hid (show zs'.length = n' from hr.len)
  have hn1 : 1 ≤ n' := by have := GN.out.p1; have := GN.out.p3; have := HNL.out; omega
  have hn4 : n' ≤ 400 := by have := GN.out.few; have := HNL.out; omega
  have gp := GN.out.p1
  have gp2 := GN.out.p2
  have gi := GN.out.i0
  have gi2 := GN.out.i1
  have HRAW := Lib.hid (later_raw GN.out (d := d) (by omega))
  have HBD := Lib.hid (show ∀ i, i < (List.replicate d (0 : Int) ++ zs').length → In64 ((List.replicate d (0 : Int) ++ zs').getD i 0) from fun i hi => by
    rw [List.length_append, List.length_replicate] at hi
    by_cases h : i < d
    · have e : (List.replicate d (0 : Int) ++ zs').getD i 0 = 0 := by simp [List.getD, List.getElem?_append, h]
      rw [e]; exact ⟨by omega, by omega⟩
    · have e : (List.replicate d (0 : Int) ++ zs').getD i 0 = zs'.getD (i - d) 0 := by simp [List.getD, List.getElem?_append, h]
      rw [e]
      rcases GN.out.val (i - d) (by omega) with h | h
      · exact ⟨by omega, by omega⟩
      · rw [h]; exact ⟨by unfold infV; omega, by unfold infV; omega⟩)
  have HAW := Lib.hid hAW
  have hd1000 : d ≤ 1000 := by omega
  have HW2 := Lib.hid hw2
  have HAE := Lib.hid hA
  have hmk := make_rowM d (by omega)
  have td : ¬ (800 : Int) < (d : Int) := by omega
  have td2 : decide ((800 : Int) < (d : Int)) = false := decide_eq_false td
  have td3 : ¬ 800 < d := by omega
  have hmn : (if (800 : Int) < (d : Int) then (800 : Int) else (d : Int)) = (d : Int) := if_neg td
  have te : ¬ (d : Int) < 0 := by omega
  have te2 : ¬ (1048576 : Int) < (d : Int) := by omega
  have KM := Lib.hid (show ∀ u, DM w A a' n' cap' p' inc' u → (fun u => u.cell? ⟨A, 0, none⟩ = some (.slice a' n' cap') ∧ u.cell? ⟨A, 1, none⟩ = some (.int .i64 p') ∧ u.cell? ⟨A, 2, none⟩ = some (.int .i64 inc') ∧ Hid (DM w A a' n' cap' p' inc' u)) u from fun u h => ⟨h.xb.c0, h.xb.c1, h.xb.c2, h⟩)
  clear hb hr hn hx hw2 hz2 hA
  go_upto_region 6 with fail
  try rw [HW2.out]
  try rw [HAE.out]
  refine wp_region_keeps (fun u => u.cell? ⟨A, 0, none⟩ = some (.slice a' n' cap') ∧ u.cell? ⟨A, 1, none⟩ = some (.int .i64 p') ∧ u.cell? ⟨A, 2, none⟩ = some (.int .i64 inc') ∧ Hid (DM w A a' n' cap' p' inc' u)) 12 1 (by kernel_rfl) (by kernel_rfl) (KM.out _ T0.out.1.dm) (fun hHeld0 => ?_)
  refine wpAnyK_take (i := 0) (v := ?_) rfl (by kernel_rfl) (fun _ _ _ h => h) (Or.inl ⟨by rfl, ?_⟩) (by assumption) ?_
  rotate_left
  · (intro w hSw; (try dsimp only at hSw); go_simp; try with_reducible rfl)
  try simp only [Act.put, List.getElem_toArray, List.getElem_cons_zero, List.getElem_cons_succ, List.setIfInBounds_toArray, List.set_cons_zero, List.set_cons_succ]
  refine wpAnyK_take (i := 1) (v := ?_) rfl (by kernel_rfl) (fun _ _ _ h => h) (Or.inl ⟨by rfl, ?_⟩) (by assumption) ?_
  rotate_left
  · (intro w hSw; (try dsimp only at hSw); go_simp; try with_reducible rfl)
  try simp only [Act.put, List.getElem_toArray, List.getElem_cons_zero, List.getElem_cons_succ, List.setIfInBounds_toArray, List.set_cons_zero, List.set_cons_succ]
  refine wpAnyK_take (i := 2) (v := ?_) rfl (by kernel_rfl) (fun _ _ _ h => h) (Or.inl ⟨by rfl, ?_⟩) (by assumption) ?_
  rotate_left
  · (intro w hSw; (try dsimp only at hSw); go_simp; try with_reducible rfl)
  try simp only [Act.put, List.getElem_toArray, List.getElem_cons_zero, List.getElem_cons_succ, List.setIfInBounds_toArray, List.set_cons_zero, List.set_cons_succ]
  refine wpAnyK_take (i := 3) (v := ?_) rfl (by kernel_rfl) (fun _ _ _ h => h) (Or.inl ⟨by rfl, ?_⟩) (by assumption) ?_
  rotate_left
  · (intro w hSw; (try dsimp only at hSw); go_simp; try with_reducible rfl)
  try simp only [Act.put, List.getElem_toArray, List.getElem_cons_zero, List.getElem_cons_succ, List.setIfInBounds_toArray, List.set_cons_zero, List.set_cons_succ]
  refine wpAnyK_take (i := 4) (v := ?_) rfl (by kernel_rfl) (fun _ _ _ h => h) (Or.inl ⟨by rfl, ?_⟩) (by assumption) ?_
  rotate_left
  · (intro w hSw; (try dsimp only at hSw); go_simp; try with_reducible rfl)
  try simp only [Act.put, List.getElem_toArray, List.getElem_cons_zero, List.getElem_cons_succ, List.setIfInBounds_toArray, List.set_cons_zero, List.set_cons_succ]
  refine wpAnyK_take (i := 5) (v := ?_) rfl (by kernel_rfl) (fun _ _ _ h => h) (Or.inl ⟨by rfl, ?_⟩) (by assumption) ?_
  rotate_left
  · (intro w hSw; (try dsimp only at hSw); go_simp; try with_reducible rfl)
  try simp only [Act.put, List.getElem_toArray, List.getElem_cons_zero, List.getElem_cons_succ, List.setIfInBounds_toArray, List.set_cons_zero, List.set_cons_succ]
  refine wpAnyK_take (i := 7) (v := ?_) rfl (by kernel_rfl) (fun _ _ _ h => h) (Or.inl ⟨by rfl, ?_⟩) (by assumption) ?_
  rotate_left
  · (intro w hSw; (try dsimp only at hSw); go_simp; try with_reducible rfl)
  try simp only [Act.put, List.getElem_toArray, List.getElem_cons_zero, List.getElem_cons_succ, List.setIfInBounds_toArray, List.set_cons_zero, List.set_cons_succ]
  refine wpAnyK_take (i := 8) (v := ?_) rfl (by kernel_rfl) (fun _ _ _ h => h) (Or.inl ⟨by rfl, ?_⟩) (by assumption) ?_
  rotate_left
  · (intro w hSw; (try dsimp only at hSw); go_simp; try with_reducible rfl)
  try simp only [Act.put, List.getElem_toArray, List.getElem_cons_zero, List.getElem_cons_succ, List.setIfInBounds_toArray, List.set_cons_zero, List.set_cons_succ]
  refine wpAnyK_two (i := 6) (j := 11) rfl rfl (by kernel_rfl) (fun K hK => ?_) (fun K hK => ?_)
  · go_simp
    obtain ⟨ux1, hv1⟩ : ∃ W', (W2.alloc (.cells (madeCells #[.int .i64 0] d) 3)).drew = W' := ⟨_, rfl⟩
    have hux1 : W2.drew.alloc (.cells (madeCells #[.int .i64 0] d) 3) = ux1 := hv1
    have hbx1 : Below W2.drew.heap.size W2.drew ux1 := by rw [← hux1]; exact (Below.refl _ _).alloc (Nat.le_refl _) _
    have N1 := Lib.hid (show ux1.ownsRow (A + 1) 3 1 (.slice (some ⟨W2.heap.size, 0, none⟩) d d) d (List.replicate d (Value.int .i64 0)) from by rw [← hux1]; exact made_own W2.drew (A + 1) d T0.out.2 hd1000)
    rw [hv1]
    clear hux1 hv1
    have Tx1 := Lib.hid (And.intro (T0.out.1.call hbx1) (show A + 1 ≤ ux1.heap.size from Nat.le_trans T0.out.2 hbx1.size))
    refine hK.out _ _ (KM.out _ Tx1.out.1.dm) (fun hHeld1 => ?_)
    clear hK K hHeld0 hbx1
    try simp only [Act.put, List.getElem_toArray, List.getElem_cons_zero, List.getElem_cons_succ, List.setIfInBounds_toArray, List.set_cons_zero, List.set_cons_succ]
    refine wpAnyK_two (i := 9) (j := 11) rfl rfl (by kernel_rfl) (fun K hK => ?_) (fun K hK => ?_)
    · obtain ⟨ad, had, hnews⟩ := Tx1.out.1.news hn1
      refine step_append_keeps _ rfl (.tmp 31) (.tmp 33) 22 rfl (A + 1) 3 ii0 (.int .i64 0) 8 Try.underlying22 ihi ihz0 ihz1 ihz2 rfl W2.heap.size d d (List.replicate d (Value.int .i64 0)) rfl N1.out ad n' cap' (zs'.map (Value.int .i64)) (by rw [← had]; rfl) (by rw [List.length_map, HNL.out, Nat.mul_one]) hnews (fun v hv => by obtain ⟨z, _, rfl⟩ := List.mem_map.1 hv; rfl) hn1 (by unfold maxLen; omega) (by omega) Tx1.out.2 ?_
      intro g2 c2 ux2 hown2 hgr2 hwh2 hlt2 _
      have N2 := Lib.hid hown2
      have hAg2 : A + 1 ≤ W2.heap.size := (N1.out.lt _ rfl).1
      have Tx2 := Lib.hid (And.intro (show DM w A a' n' cap' p' inc' ux2 from ⟨Tx1.out.1.x.box.grownN hgr2 (by intro e; have e2 := Option.some.inj e; omega), Tx1.out.1.res.grownN hgr2 (by intro e; have e2 := Option.some.inj e; have := Tx1.out.1.n1; omega), Tx1.out.1.below.grown hgr2 Tx1.out.1.below.size (fun j hj => by have e2 := Option.some.inj hj; have := Tx1.out.1.n1; omega)⟩) (show A + 1 ≤ ux2.heap.size from Nat.le_trans Tx1.out.2 hgr2.size))
      clear had hnews
      refine hK.out _ _ (KM.out _ Tx2.out.1) (fun hHeld2 => ?_)
      clear hK K hHeld1 hown2 hgr2 hwh2 hlt2
      try simp only [Act.put, List.getElem_toArray, List.getElem_cons_zero, List.getElem_cons_succ, List.setIfInBounds_toArray, List.set_cons_zero, List.set_cons_succ]
      refine wpAnyK_take (i := 10) (v := ?_) rfl (by kernel_rfl) (fun _ _ _ h => h) (Or.inl ⟨by rfl, ?_⟩) (by assumption) ?_
      rotate_left
      · (intro w hSw; (try dsimp only at hSw); go_simp; try with_reducible rfl)
      try simp only [Act.put, List.getElem_toArray, List.getElem_cons_zero, List.getElem_cons_succ, List.setIfInBounds_toArray, List.set_cons_zero, List.set_cons_succ]
      refine wpAnyK_step (i := 11) rfl (by kernel_rfl) (fun K hK => ?_)
      go_simp
      obtain ⟨ux3, hux3⟩ : ∃ W', ux2.alloc (.cells #[.slice none 0 0, .int .i64 0, .int .i64 0] 24) = W' := ⟨_, rfl⟩
      have hv3 := hux3
      have hbx3 : Below ux2.heap.size ux2 ux3 := by rw [← hux3]; exact (Below.refl _ _).alloc (Nat.le_refl _) _
      have NE3 := Lib.hid (show g2 ≠ ux2.heap.size from Nat.ne_of_lt (N2.out.lt _ rfl).2)
      have N3 := Lib.hid (show Cur3 ux3 ux2.heap.size (.slice none 0 0) (.int .i64 0) (.int .i64 0) ∧ A + 1 ≤ ux2.heap.size from ⟨by rw [← hux3]; exact Cur3.new ux2 _ _ _ _, Tx2.out.2⟩)
      rw [hv3]
      clear hux3 hv3
      have Tx3 := Lib.hid (And.intro (Tx2.out.1.call hbx3) (show A + 1 ≤ ux3.heap.size from Nat.le_trans Tx2.out.2 hbx3.size))
      have N2_3 := Lib.hid (owns_apart (b := A) N2.out (below_apart hbx3) (by omega))
      refine hK.out _ _ (KM.out _ Tx3.out.1) (fun hHeld3 => ?_)
      clear hK K hHeld2 hbx3
      try simp only [Act.put, List.getElem_toArray, List.getElem_cons_zero, List.getElem_cons_succ, List.setIfInBounds_toArray, List.set_cons_zero, List.set_cons_succ]
      refine wpAnyK_done (by kernel_rfl) ?_
      simp only [List.drop_succ_cons, List.drop_zero]
      clear hHeld3
      have RZ := Lib.hid (show RowZ ux3 (some ⟨g2, 0, none⟩) (d + n') c2 (List.replicate d 0 ++ zs') from by
        have h := N2_3.out
        rw [show (List.replicate d (Value.int .i64 0) ++ zs'.map (Value.int .i64)) = (List.replicate d (0 : Int) ++ zs').map (Value.int .i64) by simp] at h
        obtain ⟨a, c, hv, hr, _⟩ := rowZ_of_owns h (by omega) (fun i hi => HBD.out i hi)
        cases hv; exact hr)
      obtain ⟨wf, hwf⟩ : ∃ W', ((ux3.setCell ⟨ux2.heap.size, 0, none⟩ (.slice (some ⟨g2, 0, none⟩) (d + n') c2)).setCell ⟨ux2.heap.size, 1, none⟩ (.int .i64 p')).setCell ⟨ux2.heap.size, 2, none⟩ (.int .i64 inc') = W' := ⟨_, rfl⟩
      have HQ := Lib.hid (show (Cur3 wf (w.heap.size + 1) (.slice none 0 0) (.int .i64 0) (.int .i64 0) ∧ Below w.heap.size w wf) ∧ Cur3 wf ux2.heap.size (.slice (some ⟨g2, 0, none⟩) (d + n') c2) (.int .i64 p') (.int .i64 inc') ∧ RowZ wf (some ⟨g2, 0, none⟩) (d + n') c2 (List.replicate d 0 ++ zs') from by
        rw [← hwf]
        have a1 := N3.out.2
        have a2 := HAW.out
        have a3 := NE3.out
        have hq : ∀ x, (some (⟨g2, 0, none⟩ : Addr)) = some x → 1 ≤ d + n' → x.block ≠ ux2.heap.size := fun x hx _ => by cases hx; exact a3
        exact ⟨⟨(((Tx3.out.1.res.other (by omega) _ _).other (by omega) _ _).other (by omega) _ _), below_set3 Tx3.out.1.below (by omega) _ _ _⟩, N3.out.1.set _ _ _, ((RZ.out.store hq _ _).store hq _ _).store hq _ _⟩)
      have HWF := Lib.hid hwf
      obtain ⟨o0, o1, o2, o3, o4, o5⟩ := N3.out.1
      clear hwf
      go_upto_region 7 with fail
      try rw [HWF.out]
      clear o0 o1 o2 o3 o4 o5
      obtain ⟨o0, o1, o2, o3, o4, o5⟩ := HQ.out.2.1
      go_wp2_with fail
      clear o0 o1 o2 o3 o4 o5
      refine (rmade_ok _ _ _ _ _ _ HRAW.out _ HQ.out.2.2).mono ?_
      rintro e v9 ⟨hb, ⟨a9, n9, cap9, z9, p9, i9, rfl, hr, hf, hx⟩ | ⟨rfl, hno⟩⟩
      · have HP := Lib.hid (GivesE.post (E := eLater d zs p inc) (b := w.heap.size + 1) HQ.out.1.2 (by omega) HQ.out.1.1.lt hb hr hx (by rw [← HEE.out]; exact hf))
        obtain ⟨r0, r1, r2, r3, r4, r5⟩ := HQ.out.1.1.below hb
        clear hb hr hf hx
        go_wp2_with fail
        exact bodyPost_ret (v := .tuple #[curV a9 n9 cap9 p9 i9, .int .i64 0]) (by simp [results, Try.results22, go_sem, r0, r1, r2]) rfl HP.out
      · have HP := Lib.hid (GivesE.postNo (E := eLater d zs p inc) (b := w.heap.size + 1) HQ.out.1.2 (by omega) hb (by rw [← HEE.out]; exact hno))
        obtain ⟨r0, r1, r2, r3, r4, r5⟩ := HQ.out.1.1.below hb
        clear hb hno
        go_wp2_with fail
        exact bodyPost_ret (v := .tuple #[curV none 0 0 0 0, .int .i64 3]) (by simp [results, Try.results22, go_sem, r0, r1, r2]) rfl HP.out
    · go_simp
      obtain ⟨ux4, hux4⟩ : ∃ W', ux1.alloc (.cells #[.slice none 0 0, .int .i64 0, .int .i64 0] 24) = W' := ⟨_, rfl⟩
      have hv4 := hux4
      have hbx4 : Below ux1.heap.size ux1 ux4 := by rw [← hux4]; exact (Below.refl _ _).alloc (Nat.le_refl _) _
      have NE4 := Lib.hid (show W2.heap.size ≠ ux1.heap.size from Nat.ne_of_lt (N1.out.lt _ rfl).2)
      have N4 := Lib.hid (show Cur3 ux4 ux1.heap.size (.slice none 0 0) (.int .i64 0) (.int .i64 0) ∧ A + 1 ≤ ux1.heap.size from ⟨by rw [← hux4]; exact Cur3.new ux1 _ _ _ _, Tx1.out.2⟩)
      rw [hv4]
      clear hux4 hv4
      have Tx4 := Lib.hid (And.intro (Tx1.out.1.call hbx4) (show A + 1 ≤ ux4.heap.size from Nat.le_trans Tx1.out.2 hbx4.size))
      have N1_4 := Lib.hid (owns_apart (b := A) N1.out (below_apart hbx4) (by omega))
      refine hK.out _ _ (KM.out _ Tx4.out.1.dm) (fun hHeld4 => ?_)
      clear hK K hHeld1 hbx4
      try simp only [Act.put, List.getElem_toArray, List.getElem_cons_zero, List.getElem_cons_succ, List.setIfInBounds_toArray, List.set_cons_zero, List.set_cons_succ]
      refine wpAnyK_step (i := 9) rfl (by kernel_rfl) (fun K hK => ?_)
      obtain ⟨ad, had, hnews⟩ := Tx4.out.1.news hn1
      refine step_append_keeps _ rfl (.tmp 31) (.tmp 33) 22 rfl (A + 1) 3 ii0 (.int .i64 0) 8 Try.underlying22 ihi ihz0 ihz1 ihz2 rfl W2.heap.size d d (List.replicate d (Value.int .i64 0)) rfl N1_4.out ad n' cap' (zs'.map (Value.int .i64)) (by rw [← had]; rfl) (by rw [List.length_map, HNL.out, Nat.mul_one]) hnews (fun v hv => by obtain ⟨z, _, rfl⟩ := List.mem_map.1 hv; rfl) hn1 (by unfold maxLen; omega) (by omega) Tx4.out.2 ?_
      intro g5 c5 ux5 hown5 hgr5 hwh5 hlt5 _
      have N5 := Lib.hid hown5
      have hAg5 : A + 1 ≤ W2.heap.size := (N1_4.out.lt _ rfl).1
      have Tx5 := Lib.hid (And.intro (show DM w A a' n' cap' p' inc' ux5 from ⟨Tx4.out.1.x.box.grownN hgr5 (by intro e; have e2 := Option.some.inj e; omega), Tx4.out.1.res.grownN hgr5 (by intro e; have e2 := Option.some.inj e; have := Tx4.out.1.n1; omega), Tx4.out.1.below.grown hgr5 Tx4.out.1.below.size (fun j hj => by have e2 := Option.some.inj hj; have := Tx4.out.1.n1; omega)⟩) (show A + 1 ≤ ux5.heap.size from Nat.le_trans Tx4.out.2 hgr5.size))
      clear had hnews
      have NE5 := Lib.hid (show g5 ≠ ux1.heap.size from by
        have h1 := NE4.out
        have h2 := N4.out.1.lt
        rcases hwh5 with e | e <;> omega)
      have N4_5 := Lib.hid (And.intro (N4.out.1.grownN hgr5 (by intro e; exact NE4.out (Option.some.inj e))) N4.out.2)
      refine hK.out _ _ (KM.out _ Tx5.out.1) (fun hHeld5 => ?_)
      clear hK K hHeld4 hown5 hgr5 hwh5 hlt5
      try simp only [Act.put, List.getElem_toArray, List.getElem_cons_zero, List.getElem_cons_succ, List.setIfInBounds_toArray, List.set_cons_zero, List.set_cons_succ]
      refine wpAnyK_take (i := 10) (v := ?_) rfl (by kernel_rfl) (fun _ _ _ h => h) (Or.inl ⟨by rfl, ?_⟩) (by assumption) ?_
      rotate_left
      · (intro w hSw; (try dsimp only at hSw); go_simp; try with_reducible rfl)
      try simp only [Act.put, List.getElem_toArray, List.getElem_cons_zero, List.getElem_cons_succ, List.setIfInBounds_toArray, List.set_cons_zero, List.set_cons_succ]
      refine wpAnyK_done (by kernel_rfl) ?_
      simp only [List.drop_succ_cons, List.drop_zero]
      clear hHeld5
      have RZ := Lib.hid (show RowZ ux5 (some ⟨g5, 0, none⟩) (d + n') c5 (List.replicate d 0 ++ zs') from by
        have h := N5.out
        rw [show (List.replicate d (Value.int .i64 0) ++ zs'.map (Value.int .i64)) = (List.replicate d (0 : Int) ++ zs').map (Value.int .i64) by simp] at h
        obtain ⟨a, c, hv, hr, _⟩ := rowZ_of_owns h (by omega) (fun i hi => HBD.out i hi)
        cases hv; exact hr)
      obtain ⟨wf, hwf⟩ : ∃ W', ((ux5.setCell ⟨ux1.heap.size, 0, none⟩ (.slice (some ⟨g5, 0, none⟩) (d + n') c5)).setCell ⟨ux1.heap.size, 1, none⟩ (.int .i64 p')).setCell ⟨ux1.heap.size, 2, none⟩ (.int .i64 inc') = W' := ⟨_, rfl⟩
      have HQ := Lib.hid (show (Cur3 wf (w.heap.size + 1) (.slice none 0 0) (.int .i64 0) (.int .i64 0) ∧ Below w.heap.size w wf) ∧ Cur3 wf ux1.heap.size (.slice (some ⟨g5, 0, none⟩) (d + n') c5) (.int .i64 p') (.int .i64 inc') ∧ RowZ wf (some ⟨g5, 0, none⟩) (d + n') c5 (List.replicate d 0 ++ zs') from by
        rw [← hwf]
        have a1 := N4_5.out.2
        have a2 := HAW.out
        have a3 := NE5.out
        have hq : ∀ x, (some (⟨g5, 0, none⟩ : Addr)) = some x → 1 ≤ d + n' → x.block ≠ ux1.heap.size := fun x hx _ => by cases hx; exact a3
        exact ⟨⟨(((Tx5.out.1.res.other (by omega) _ _).other (by omega) _ _).other (by omega) _ _), below_set3 Tx5.out.1.below (by omega) _ _ _⟩, N4_5.out.1.set _ _ _, ((RZ.out.store hq _ _).store hq _ _).store hq _ _⟩)
      have HWF := Lib.hid hwf
      obtain ⟨o0, o1, o2, o3, o4, o5⟩ := N4_5.out.1
      clear hwf
      go_upto_region 7 with fail
      try rw [HWF.out]
      clear o0 o1 o2 o3 o4 o5
      obtain ⟨o0, o1, o2, o3, o4, o5⟩ := HQ.out.2.1
      go_wp2_with fail
      clear o0 o1 o2 o3 o4 o5
      refine (rmade_ok _ _ _ _ _ _ HRAW.out _ HQ.out.2.2).mono ?_
      rintro e v9 ⟨hb, ⟨a9, n9, cap9, z9, p9, i9, rfl, hr, hf, hx⟩ | ⟨rfl, hno⟩⟩
      · have HP := Lib.hid (GivesE.post (E := eLater d zs p inc) (b := w.heap.size + 1) HQ.out.1.2 (by omega) HQ.out.1.1.lt hb hr hx (by rw [← HEE.out]; exact hf))
        obtain ⟨r0, r1, r2, r3, r4, r5⟩ := HQ.out.1.1.below hb
        clear hb hr hf hx
        go_wp2_with fail
        exact bodyPost_ret (v := .tuple #[curV a9 n9 cap9 p9 i9, .int .i64 0]) (by simp [results, Try.results22, go_sem, r0, r1, r2]) rfl HP.out
      · have HP := Lib.hid (GivesE.postNo (E := eLater d zs p inc) (b := w.heap.size + 1) HQ.out.1.2 (by omega) hb (by rw [← HEE.out]; exact hno))
        obtain ⟨r0, r1, r2, r3, r4, r5⟩ := HQ.out.1.1.below hb
        clear hb hno
        go_wp2_with fail
        exact bodyPost_ret (v := .tuple #[curV none 0 0 0 0, .int .i64 3]) (by simp [results, Try.results22, go_sem, r0, r1, r2]) rfl HP.out
  · go_simp
    obtain ⟨ux6, hv6⟩ : ∃ W', (W2.alloc (.cells #[.slice none 0 0, .int .i64 0, .int .i64 0] 24)).drew = W' := ⟨_, rfl⟩
    have hux6 : W2.drew.alloc (.cells #[.slice none 0 0, .int .i64 0, .int .i64 0] 24) = ux6 := hv6
    have hbx6 : Below W2.drew.heap.size W2.drew ux6 := by rw [← hux6]; exact (Below.refl _ _).alloc (Nat.le_refl _) _
    have N6 := Lib.hid (show Cur3 ux6 W2.heap.size (.slice none 0 0) (.int .i64 0) (.int .i64 0) ∧ A + 1 ≤ W2.heap.size from ⟨by rw [← hux6]; exact Cur3.new W2.drew _ _ _ _, T0.out.2⟩)
    rw [hv6]
    clear hux6 hv6
    have Tx6 := Lib.hid (And.intro (T0.out.1.call hbx6) (show A + 1 ≤ ux6.heap.size from Nat.le_trans T0.out.2 hbx6.size))
    refine hK.out _ _ (KM.out _ Tx6.out.1.dm) (fun hHeld6 => ?_)
    clear hK K hHeld0 hbx6
    try simp only [Act.put, List.getElem_toArray, List.getElem_cons_zero, List.getElem_cons_succ, List.setIfInBounds_toArray, List.set_cons_zero, List.set_cons_succ]
    refine wpAnyK_step (i := 6) rfl (by kernel_rfl) (fun K hK => ?_)
    go_simp
    obtain ⟨ux7, hux7⟩ : ∃ W', ux6.alloc (.cells (madeCells #[.int .i64 0] d) 3) = W' := ⟨_, rfl⟩
    have hv7 := hux7
    have hbx7 : Below ux6.heap.size ux6 ux7 := by rw [← hux7]; exact (Below.refl _ _).alloc (Nat.le_refl _) _
    have NE7 := Lib.hid (show ux6.heap.size ≠ W2.heap.size from Nat.ne_of_gt N6.out.1.lt)
    have N7 := Lib.hid (show ux7.ownsRow (A + 1) 3 1 (.slice (some ⟨ux6.heap.size, 0, none⟩) d d) d (List.replicate d (Value.int .i64 0)) from by rw [← hux7]; exact made_own ux6 (A + 1) d Tx6.out.2 hd1000)
    rw [hv7]
    clear hux7 hv7
    have Tx7 := Lib.hid (And.intro (Tx6.out.1.call hbx7) (show A + 1 ≤ ux7.heap.size from Nat.le_trans Tx6.out.2 hbx7.size))
    have N6_7 := Lib.hid (And.intro (N6.out.1.below hbx7) N6.out.2)
    refine hK.out _ _ (KM.out _ Tx7.out.1.dm) (fun hHeld7 => ?_)
    clear hK K hHeld6 hbx7
    try simp only [Act.put, List.getElem_toArray, List.getElem_cons_zero, List.getElem_cons_succ, List.setIfInBounds_toArray, List.set_cons_zero, List.set_cons_succ]
    refine wpAnyK_step (i := 9) rfl (by kernel_rfl) (fun K hK => ?_)
    obtain ⟨ad, had, hnews⟩ := Tx7.out.1.news hn1
    refine step_append_keeps _ rfl (.tmp 31) (.tmp 33) 22 rfl (A + 1) 3 ii0 (.int .i64 0) 8 Try.underlying22 ihi ihz0 ihz1 ihz2 rfl ux6.heap.size d d (List.replicate d (Value.int .i64 0)) rfl N7.out ad n' cap' (zs'.map (Value.int .i64)) (by rw [← had]; rfl) (by rw [List.length_map, HNL.out, Nat.mul_one]) hnews (fun v hv => by obtain ⟨z, _, rfl⟩ := List.mem_map.1 hv; rfl) hn1 (by unfold maxLen; omega) (by omega) Tx7.out.2 ?_
    intro g8 c8 ux8 hown8 hgr8 hwh8 hlt8 _
    have N8 := Lib.hid hown8
    have hAg8 : A + 1 ≤ ux6.heap.size := (N7.out.lt _ rfl).1
    have Tx8 := Lib.hid (And.intro (show DM w A a' n' cap' p' inc' ux8 from ⟨Tx7.out.1.x.box.grownN hgr8 (by intro e; have e2 := Option.some.inj e; omega), Tx7.out.1.res.grownN hgr8 (by intro e; have e2 := Option.some.inj e; have := Tx7.out.1.n1; omega), Tx7.out.1.below.grown hgr8 Tx7.out.1.below.size (fun j hj => by have e2 := Option.some.inj hj; have := Tx7.out.1.n1; omega)⟩) (show A + 1 ≤ ux8.heap.size from Nat.le_trans Tx7.out.2 hgr8.size))
    clear had hnews
    have NE8 := Lib.hid (show g8 ≠ W2.heap.size from by
      have h1 := NE7.out
      have h2 := N6_7.out.1.lt
      rcases hwh8 with e | e <;> omega)
    have N6_7_8 := Lib.hid (And.intro (N6_7.out.1.grownN hgr8 (by intro e; exact NE7.out (Option.some.inj e))) N6_7.out.2)
    refine hK.out _ _ (KM.out _ Tx8.out.1) (fun hHeld8 => ?_)
    clear hK K hHeld7 hown8 hgr8 hwh8 hlt8
    try simp only [Act.put, List.getElem_toArray, List.getElem_cons_zero, List.getElem_cons_succ, List.setIfInBounds_toArray, List.set_cons_zero, List.set_cons_succ]
    refine wpAnyK_take (i := 10) (v := ?_) rfl (by kernel_rfl) (fun _ _ _ h => h) (Or.inl ⟨by rfl, ?_⟩) (by assumption) ?_
    rotate_left
    · (intro w hSw; (try dsimp only at hSw); go_simp; try with_reducible rfl)
    try simp only [Act.put, List.getElem_toArray, List.getElem_cons_zero, List.getElem_cons_succ, List.setIfInBounds_toArray, List.set_cons_zero, List.set_cons_succ]
    refine wpAnyK_done (by kernel_rfl) ?_
    simp only [List.drop_succ_cons, List.drop_zero]
    clear hHeld8
    have RZ := Lib.hid (show RowZ ux8 (some ⟨g8, 0, none⟩) (d + n') c8 (List.replicate d 0 ++ zs') from by
      have h := N8.out
      rw [show (List.replicate d (Value.int .i64 0) ++ zs'.map (Value.int .i64)) = (List.replicate d (0 : Int) ++ zs').map (Value.int .i64) by simp] at h
      obtain ⟨a, c, hv, hr, _⟩ := rowZ_of_owns h (by omega) (fun i hi => HBD.out i hi)
      cases hv; exact hr)
    obtain ⟨wf, hwf⟩ : ∃ W', ((ux8.setCell ⟨W2.heap.size, 0, none⟩ (.slice (some ⟨g8, 0, none⟩) (d + n') c8)).setCell ⟨W2.heap.size, 1, none⟩ (.int .i64 p')).setCell ⟨W2.heap.size, 2, none⟩ (.int .i64 inc') = W' := ⟨_, rfl⟩
    have HQ := Lib.hid (show (Cur3 wf (w.heap.size + 1) (.slice none 0 0) (.int .i64 0) (.int .i64 0) ∧ Below w.heap.size w wf) ∧ Cur3 wf W2.heap.size (.slice (some ⟨g8, 0, none⟩) (d + n') c8) (.int .i64 p') (.int .i64 inc') ∧ RowZ wf (some ⟨g8, 0, none⟩) (d + n') c8 (List.replicate d 0 ++ zs') from by
      rw [← hwf]
      have a1 := N6_7_8.out.2
      have a2 := HAW.out
      have a3 := NE8.out
      have hq : ∀ x, (some (⟨g8, 0, none⟩ : Addr)) = some x → 1 ≤ d + n' → x.block ≠ W2.heap.size := fun x hx _ => by cases hx; exact a3
      exact ⟨⟨(((Tx8.out.1.res.other (by omega) _ _).other (by omega) _ _).other (by omega) _ _), below_set3 Tx8.out.1.below (by omega) _ _ _⟩, N6_7_8.out.1.set _ _ _, ((RZ.out.store hq _ _).store hq _ _).store hq _ _⟩)
    have HWF := Lib.hid hwf
    obtain ⟨o0, o1, o2, o3, o4, o5⟩ := N6_7_8.out.1
    clear hwf
    go_upto_region 7 with fail
    try rw [HWF.out]
    clear o0 o1 o2 o3 o4 o5
    obtain ⟨o0, o1, o2, o3, o4, o5⟩ := HQ.out.2.1
    go_wp2_with fail
    clear o0 o1 o2 o3 o4 o5
    refine (rmade_ok _ _ _ _ _ _ HRAW.out _ HQ.out.2.2).mono ?_
    rintro e v9 ⟨hb, ⟨a9, n9, cap9, z9, p9, i9, rfl, hr, hf, hx⟩ | ⟨rfl, hno⟩⟩
    · have HP := Lib.hid (GivesE.post (E := eLater d zs p inc) (b := w.heap.size + 1) HQ.out.1.2 (by omega) HQ.out.1.1.lt hb hr hx (by rw [← HEE.out]; exact hf))
      obtain ⟨r0, r1, r2, r3, r4, r5⟩ := HQ.out.1.1.below hb
      clear hb hr hf hx
      go_wp2_with fail
      exact bodyPost_ret (v := .tuple #[curV a9 n9 cap9 p9 i9, .int .i64 0]) (by simp [results, Try.results22, go_sem, r0, r1, r2]) rfl HP.out
    · have HP := Lib.hid (GivesE.postNo (E := eLater d zs p inc) (b := w.heap.size + 1) HQ.out.1.2 (by omega) hb (by rw [← HEE.out]; exact hno))
      obtain ⟨r0, r1, r2, r3, r4, r5⟩ := HQ.out.1.1.below hb
      clear hb hno
      go_wp2_with fail
      exact bodyPost_ret (v := .tuple #[curV none 0 0 0 0, .int .i64 3]) (by simp [results, Try.results22, go_sem, r0, r1, r2]) rfl HP.out

section
variable (a1 : Option Addr) (n1 cap1 : Nat) (z1 : List Int) (p1 : Nat) (i1 : Int) (g1 : Good z1 p1 i1) (a2 : Option Addr) (n2 cap2 : Nat) (z2 : List Int) (p2 : Nat) (i2 : Int) (g2 : Good z2 p2 i2) (h1 : Day (eC z1 p1 i1)) (h2 : Day (eC z2 p2 i2))
    (w : World) (r1 : RowZ w a1 n1 cap1 z1) (r2 : RowZ w a2 n2 cap2 z2)
include g1 g2 h1 h2 r1 r2
end

end Go.Proofs.Ythljhddnfflpjaa

namespace Go.Proofs.Ythljhddnfflpjaa
set_option linter.unusedVariables false

end Go.Proofs.Ythljhddnfflpjaa
