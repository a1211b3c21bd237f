/- Backlog and Peak of two valid curves. By the verifier's side. -/
import Derived.Test.YtjjaaknjdmijbaaQeDevCDevDDevE
namespace Go.Proofs.Ytjjaaknjdmijbaa
open Go.RowKit
set_option linter.unusedSimpArgs false
set_option linter.unusedVariables false

set_option maxRecDepth 100000 in
set_option maxHeartbeats 6400000 in
theorem backlog_ok (a1 : Option Addr) (n1 cap1 : Nat) (z1 : List Int) (p1 : Nat) (i1 : Int) (g1 : Good z1 p1 i1) (a2 : Option Addr) (n2 cap2 : Nat) (z2 : List Int) (p2 : Nat) (i2 : Int) (g2 : Good z2 p2 i2)
    {y1 y2 : List Int} {q1 q2 : Nat} {j1 j2 : Int} (hn1 : NormC z1 p1 i1 y1 q1 j1) (hn2 : NormC z2 p2 i2 y2 q2 j2) (L : Nat) (hL : q1 / Nat.gcd q1 q2 * q2 = L) (hL2 : L ≤ 120) (w : World) (h1 : RowZ w a1 n1 cap1 z1) (h2 : RowZ w a2 n2 cap2 z2) :
    Calls Try.prog 58 #[curV a1 n1 cap1 p1 i1, curV a2 n2 cap2 p2 i2] w (GivesDev (DevB (fun t => eC z1 p1 i1 (t + 0)) (eC z2 p2 i2)) w) := by
  have hmf : ∀ (fn : Fn) (first cap : Array Value) (w : World), (Instr.makeFunc fn first cap).run Try.prog w = .ok (.func fn first cap) w := fun _ _ _ _ => rfl
  obtain ⟨W, hW⟩ : ∃ W, ((w.alloc (.cells #[.slice a1 n1 cap1, .int .i64 p1, .int .i64 i1] 24)).alloc (.cells #[.slice a2 n2 cap2, .int .i64 p2, .int .i64 i2] 24)).alloc (.cells #[.bool false, .int .i64 0, .int .i64 0] 74) = W := ⟨_, rfl⟩
  obtain ⟨t0, hsz⟩ := sv_start (p1 := p1) (i1 := i1) (p2 := p2) (i2 := i2) h1 h2 hW
  have T0 := Lib.hid t0
  have HSZ := Lib.hid hsz
  have HW := Lib.hid hW
  have HP := Lib.hid (pairP_of g1 g2 hn1 hn2 hL hL2)
  have HE := Lib.hid (And.intro (norm_E hn1 g1) (norm_E hn2 g2))
  have G1 := Lib.hid g1
  have G2 := Lib.hid g2
  have HN := Lib.hid (And.intro hn1 hn2)
  have HL := Lib.hid (And.intro hL hL2)
  clear t0 hsz hW g1 g2 hn1 hn2 hL hL2 h1 h2
  obtain ⟨c0, c1, c2, f0, f1, f2⟩ := T0.out.c1
  obtain ⟨d0, d1, d2, e0, e1, e2⟩ := T0.out.c2
  go_enter Try.func58, Try.ntmps58
  go_upto_region 1 with fail
  try rw [HW.out]
  go_wp2_with fail
  refine (vpaired_ok a1 n1 cap1 z1 p1 i1 G1.out a2 n2 cap2 z2 p2 i2 G2.out HN.out.1 HN.out.2 L HL.out.1 HL.out.2 _ T0.out.r1 T0.out.r2).mono ?_
  rintro e w1 ⟨a3, n3, cap3, a4, n4, cap4, rfl, hb, hr1, hr2⟩
  obtain ⟨w2, hw2⟩ : ∃ W', w1.alloc (.cells #[.slice a3 n3 cap3, .int .i64 q1, .int .i64 j1, .slice a4 n4 cap4, .int .i64 q2, .int .i64 j2, .int .i64 L] 130) = W' := ⟨_, rfl⟩
  have hz : Below w1.heap.size w1 w2 := by rw [← hw2]; exact (Below.refl _ _).alloc (Nat.le_refl _) _
  have S2 := Lib.hid (show SPv w w1.heap.size a3 n3 cap3 q1 j1 y1 a4 n4 cap4 q2 j2 y2 L w2 from ⟨(T0.out.res.below hb).below hz, by rw [← hw2]; exact p7_new w1 _ _ _ _ _ _ _ _, hr1.under hz, hr2.under hz, (T0.out.below.trans (hb.mono T0.out.below.size)).trans (hz.mono (Nat.le_trans T0.out.below.size hb.size))⟩)
  have HSB := Lib.hid (show w.heap.size + 3 ≤ w1.heap.size from Nat.le_trans (Nat.le_of_eq HSZ.out.symm) hb.size)
  have HW2 := Lib.hid hw2
  clear hb hr1 hr2 hw2 hz c0 c1 c2 f0 f1 f2 d0 d1 d2 e0 e1 e2
  go_upto_region 4 with fail
  try rw [HW2.out]
  obtain ⟨PB, hPB⟩ : ∃ PB, w1.heap.size = PB := ⟨_, rfl⟩
  rw [hPB] at S2 HSB
  try rw [hPB]
  clear hPB HW2
  obtain ⟨⟨c0, c1, c2, f0, f1, f2⟩, c3, c4, c5, c6, f3, f4, f5, f6⟩ := S2.out.pr
  go_cut [8, 9] (fun s8 s9 wx => ∃ b9 b10 B1 B2 : Nat, s8 = .pointer (some ⟨b9, 0, none⟩) ∧ s9 = .pointer (some ⟨b10, 0, none⟩) ∧ Hid (SPv w PB a3 n3 cap3 q1 j1 y1 a4 n4 cap4 q2 j2 y2 L wx) ∧ Hid (Clo2 w b9 b10 B1 B2 (atC y1 q1 j1) (atC y2 q2 j2) wx))
  case first =>
    have r3lt := S2.out.r1.far
    have r4lt := S2.out.r2.far
    have KS8 := Lib.hid (show ∀ u, SPv w PB a3 n3 cap3 q1 j1 y1 a4 n4 cap4 q2 j2 y2 L u ∧ Below w2.heap.size w2 u → (fun u => (u.cell? ⟨PB, 0, none⟩ = some (.slice a3 n3 cap3) ∧ u.cell? ⟨PB, 1, none⟩ = some (.int .i64 q1) ∧ u.cell? ⟨PB, 2, none⟩ = some (.int .i64 j1) ∧ u.cell? ⟨PB, 3, none⟩ = some (.slice a4 n4 cap4) ∧ u.cell? ⟨PB, 4, none⟩ = some (.int .i64 q2) ∧ u.cell? ⟨PB, 5, none⟩ = some (.int .i64 j2)) ∧ Hid (SPv w PB a3 n3 cap3 q1 j1 y1 a4 n4 cap4 q2 j2 y2 L u ∧ Below w2.heap.size w2 u)) u from fun u hu => ⟨⟨hu.1.pr.lo.c0, hu.1.pr.lo.c1, hu.1.pr.lo.c2, hu.1.pr.c3, hu.1.pr.c4, hu.1.pr.c5⟩, hu⟩)
    have T0' := Lib.hid (And.intro (S2.out.call (Below.drew (Below.refl _ _))) (Below.drew (Below.refl w2.heap.size w2)))
    clear c0 c1 c2 f0 f1 f2 c3 c4 c5 c6 f3 f4 f5 f6
    refine wp_region_keeps (fun u => (u.cell? ⟨PB, 0, none⟩ = some (.slice a3 n3 cap3) ∧ u.cell? ⟨PB, 1, none⟩ = some (.int .i64 q1) ∧ u.cell? ⟨PB, 2, none⟩ = some (.int .i64 j1) ∧ u.cell? ⟨PB, 3, none⟩ = some (.slice a4 n4 cap4) ∧ u.cell? ⟨PB, 4, none⟩ = some (.int .i64 q2) ∧ u.cell? ⟨PB, 5, none⟩ = some (.int .i64 j2)) ∧ Hid (SPv w PB a3 n3 cap3 q1 j1 y1 a4 n4 cap4 q2 j2 y2 L u ∧ Below w2.heap.size w2 u)) 8 2 (by kernel_rfl) (by kernel_rfl) (KS8.out _ T0'.out) (fun hHeld0 => ?_)
    refine wpAnyK_take (i := 0) (v := ?_) rfl (by kernel_rfl) (fun _ _ _ h => h) (Or.inl ⟨by rfl, ?_⟩) (by assumption) ?_
    rotate_left
    · (intro w hSw; (try dsimp only at hSw); go_simp; try with_reducible rfl)
    try simp only [Act.put, List.getElem_toArray, List.getElem_cons_zero, List.getElem_cons_succ, List.setIfInBounds_toArray, List.set_cons_zero, List.set_cons_succ]
    refine wpAnyK_take (i := 1) (v := ?_) rfl (by kernel_rfl) (fun _ _ _ h => h) (Or.inl ⟨by rfl, ?_⟩) (by assumption) ?_
    rotate_left
    · (intro w hSw; (try dsimp only at hSw); go_simp; try with_reducible rfl)
    try simp only [Act.put, List.getElem_toArray, List.getElem_cons_zero, List.getElem_cons_succ, List.setIfInBounds_toArray, List.set_cons_zero, List.set_cons_succ]
    refine wpAnyK_take (i := 3) (v := ?_) rfl (by kernel_rfl) (fun _ _ _ h => h) (Or.inl ⟨by rfl, ?_⟩) (by assumption) ?_
    rotate_left
    · (intro w hSw; (try dsimp only at hSw); go_simp; try with_reducible rfl)
    try simp only [Act.put, List.getElem_toArray, List.getElem_cons_zero, List.getElem_cons_succ, List.setIfInBounds_toArray, List.set_cons_zero, List.set_cons_succ]
    refine wpAnyK_take (i := 4) (v := ?_) rfl (by kernel_rfl) (fun _ _ _ h => h) (Or.inl ⟨by rfl, ?_⟩) (by assumption) ?_
    rotate_left
    · (intro w hSw; (try dsimp only at hSw); go_simp; try with_reducible rfl)
    try simp only [Act.put, List.getElem_toArray, List.getElem_cons_zero, List.getElem_cons_succ, List.setIfInBounds_toArray, List.set_cons_zero, List.set_cons_succ]
    refine wpAnyK_three (i := 2) (j := 6) (k := 7) rfl rfl rfl (by kernel_rfl) (fun K hK => ?_) (fun K hK => ?_) (fun K hK => ?_)
    · go_simp
      with_reducible refine (pvalues_p a3 n3 cap3 y1 q1 j1 HP.out.g _ T0'.out.1.r1).mono ?_
      rintro e ux1 ⟨Bx1, rfl, hbx1, hlx1, hmx1, hcx1⟩
      have Tx1 := Lib.hid (And.intro (T0'.out.1.call hbx1) (T0'.out.2.trans (hbx1.mono T0'.out.2.size)))
      have zx1 := Lib.hid (And.intro hbx1.size (And.intro hlx1 hmx1))
      have C1 := Lib.hid hcx1
      clear hlx1 hmx1 hcx1
      refine hK.out _ _ (KS8.out _ Tx1.out) (fun hHeld1 => ?_)
      clear hK K hHeld0 hbx1
      try simp only [Act.put, List.getElem_toArray, List.getElem_cons_zero, List.getElem_cons_succ, List.setIfInBounds_toArray, List.set_cons_zero, List.set_cons_succ]
      refine wpAnyK_three (i := 5) (j := 6) (k := 7) rfl rfl rfl (by kernel_rfl) (fun K hK => ?_) (fun K hK => ?_) (fun K hK => ?_)
      · go_simp
        with_reducible refine (pvalues_p a4 n4 cap4 y2 q2 j2 HP.out.k _ Tx1.out.1.r2).mono ?_
        rintro e ux2 ⟨Bx2, rfl, hbx2, hlx2, hmx2, hcx2⟩
        have Tx2 := Lib.hid (And.intro (Tx1.out.1.call hbx2) (Tx1.out.2.trans (hbx2.mono Tx1.out.2.size)))
        have zx2 := Lib.hid (And.intro hbx2.size (And.intro hlx2 hmx2))
        have C2 := Lib.hid hcx2
        clear hlx2 hmx2 hcx2
        have C1_2 := Lib.hid (C1.out.under hbx2)
        refine hK.out _ _ (KS8.out _ Tx2.out) (fun hHeld2 => ?_)
        clear hK K hHeld1 hbx2
        try simp only [Act.put, List.getElem_toArray, List.getElem_cons_zero, List.getElem_cons_succ, List.setIfInBounds_toArray, List.set_cons_zero, List.set_cons_succ]
        refine wpAnyK_two (i := 6) (j := 7) rfl rfl (by kernel_rfl) (fun K hK => ?_) (fun K hK => ?_)
        · go_simp
          obtain ⟨ux3, hux3⟩ : ∃ W, ux2.alloc (.cells #[.nilFunc] 33) = W := ⟨_, rfl⟩
          have hv3 := hux3
          have hbx3 : Below ux2.heap.size ux2 ux3 := by rw [← hux3]; exact (Below.refl _ _).alloc (Nat.le_refl _) _
          have N3 := Lib.hid (show Nil9 w2 ux3 ux2.heap.size by rw [← hux3]; exact Nil9.new Tx2.out.2.size)
          have zx3 := Lib.hid (show ux3.heap.size = ux2.heap.size + 1 by rw [← hux3]; exact size_new _ _)
          rw [hv3]
          clear hux3 hv3
          have Tx3 := Lib.hid (And.intro (Tx2.out.1.call hbx3) (Tx2.out.2.trans (hbx3.mono Tx2.out.2.size)))
          have C1_2_3 := Lib.hid (C1_2.out.under hbx3)
          have C2_3 := Lib.hid (C2.out.under hbx3)
          refine hK.out _ _ (KS8.out _ Tx3.out) (fun hHeld3 => ?_)
          clear hK K hHeld2 hbx3
          try simp only [Act.put, List.getElem_toArray, List.getElem_cons_zero, List.getElem_cons_succ, List.setIfInBounds_toArray, List.set_cons_zero, List.set_cons_succ]
          refine wpAnyK_step (i := 7) rfl (by kernel_rfl) (fun K hK => ?_)
          go_simp
          obtain ⟨ux4, hux4⟩ : ∃ W, ux3.alloc (.cells #[.nilFunc] 33) = W := ⟨_, rfl⟩
          have hv4 := hux4
          have hbx4 : Below ux3.heap.size ux3 ux4 := by rw [← hux4]; exact (Below.refl _ _).alloc (Nat.le_refl _) _
          have N4 := Lib.hid (show Nil9 w2 ux4 ux3.heap.size by rw [← hux4]; exact Nil9.new Tx3.out.2.size)
          have zx4 := Lib.hid (show ux4.heap.size = ux3.heap.size + 1 by rw [← hux4]; exact size_new _ _)
          rw [hv4]
          clear hux4 hv4
          have Tx4 := Lib.hid (And.intro (Tx3.out.1.call hbx4) (Tx3.out.2.trans (hbx4.mono Tx3.out.2.size)))
          have C1_2_3_4 := Lib.hid (C1_2_3.out.under hbx4)
          have C2_3_4 := Lib.hid (C2_3.out.under hbx4)
          have N3_4 := Lib.hid (N3.out.call hbx4)
          refine hK.out _ _ (KS8.out _ Tx4.out) (fun hHeld4 => ?_)
          clear hK K hHeld3 hbx4
          try simp only [Act.put, List.getElem_toArray, List.getElem_cons_zero, List.getElem_cons_succ, List.setIfInBounds_toArray, List.set_cons_zero, List.set_cons_succ]
          refine wpAnyK_done (by kernel_rfl) ?_
          simp only [List.drop_succ_cons, List.drop_zero]
          have yx1 := zx1.out
          have yx2 := zx2.out
          have yx3 := zx3.out
          have yx4 := zx4.out
          have vx9 := N3_4.out.1
          have vx10 := N4.out.1
          have HF8 := Lib.hid (Clo2.end (w := w) C1_2_3_4.out C2_3_4.out (b9 := ux2.heap.size) (b10 := ux3.heap.size) (by omega) N3_4.out.2.1 N4.out.2.1 ⟨by omega, by omega, fun x hx hn => by have := r3lt x hx hn; omega⟩ ⟨by omega, by omega, fun x hx hn => by have := r3lt x hx hn; omega⟩ ⟨by omega, by omega, fun x hx hn => by have := r4lt x hx hn; omega⟩ ⟨by omega, by omega, fun x hx hn => by have := r4lt x hx hn; omega⟩)
          have HT8 := Lib.hid (S2.out.call ((Tx4.out.2.setCell (p := ⟨ux2.heap.size, 0, none⟩) (by show w2.heap.size ≤ ux2.heap.size; omega) (.func (.func 181) #[] #[.pointer (some ⟨Bx1 + 1, 0, none⟩), .pointer (some ⟨Bx1, 0, none⟩)])).setCell (p := ⟨ux3.heap.size, 0, none⟩) (by show w2.heap.size ≤ ux3.heap.size; omega) (.func (.func 181) #[] #[.pointer (some ⟨Bx2 + 1, 0, none⟩), .pointer (some ⟨Bx2, 0, none⟩)])))
          obtain ⟨g1, g2, g3⟩ := N3_4.out
          obtain ⟨g4, g5, g6⟩ := N4.out
          have gn : ¬ ux2.heap.size = ux3.heap.size := by omega
          have gn' : ¬ ux3.heap.size = ux2.heap.size := by omega
          clear yx1 yx2 yx3 yx4 vx9 vx10
          clear hHeld4
          go_wp2_with fail
          go_meet
          exact ⟨ux2.heap.size, ux3.heap.size, Bx1, Bx2, rfl, rfl, HT8, HF8⟩
        · go_simp
          obtain ⟨ux5, hux5⟩ : ∃ W, ux2.alloc (.cells #[.nilFunc] 33) = W := ⟨_, rfl⟩
          have hv5 := hux5
          have hbx5 : Below ux2.heap.size ux2 ux5 := by rw [← hux5]; exact (Below.refl _ _).alloc (Nat.le_refl _) _
          have N5 := Lib.hid (show Nil9 w2 ux5 ux2.heap.size by rw [← hux5]; exact Nil9.new Tx2.out.2.size)
          have zx5 := Lib.hid (show ux5.heap.size = ux2.heap.size + 1 by rw [← hux5]; exact size_new _ _)
          rw [hv5]
          clear hux5 hv5
          have Tx5 := Lib.hid (And.intro (Tx2.out.1.call hbx5) (Tx2.out.2.trans (hbx5.mono Tx2.out.2.size)))
          have C1_2_5 := Lib.hid (C1_2.out.under hbx5)
          have C2_5 := Lib.hid (C2.out.under hbx5)
          refine hK.out _ _ (KS8.out _ Tx5.out) (fun hHeld5 => ?_)
          clear hK K hHeld2 hbx5
          try simp only [Act.put, List.getElem_toArray, List.getElem_cons_zero, List.getElem_cons_succ, List.setIfInBounds_toArray, List.set_cons_zero, List.set_cons_succ]
          refine wpAnyK_step (i := 6) rfl (by kernel_rfl) (fun K hK => ?_)
          go_simp
          obtain ⟨ux6, hux6⟩ : ∃ W, ux5.alloc (.cells #[.nilFunc] 33) = W := ⟨_, rfl⟩
          have hv6 := hux6
          have hbx6 : Below ux5.heap.size ux5 ux6 := by rw [← hux6]; exact (Below.refl _ _).alloc (Nat.le_refl _) _
          have N6 := Lib.hid (show Nil9 w2 ux6 ux5.heap.size by rw [← hux6]; exact Nil9.new Tx5.out.2.size)
          have zx6 := Lib.hid (show ux6.heap.size = ux5.heap.size + 1 by rw [← hux6]; exact size_new _ _)
          rw [hv6]
          clear hux6 hv6
          have Tx6 := Lib.hid (And.intro (Tx5.out.1.call hbx6) (Tx5.out.2.trans (hbx6.mono Tx5.out.2.size)))
          have C1_2_5_6 := Lib.hid (C1_2_5.out.under hbx6)
          have C2_5_6 := Lib.hid (C2_5.out.under hbx6)
          have N5_6 := Lib.hid (N5.out.call hbx6)
          refine hK.out _ _ (KS8.out _ Tx6.out) (fun hHeld6 => ?_)
          clear hK K hHeld5 hbx6
          try simp only [Act.put, List.getElem_toArray, List.getElem_cons_zero, List.getElem_cons_succ, List.setIfInBounds_toArray, List.set_cons_zero, List.set_cons_succ]
          refine wpAnyK_done (by kernel_rfl) ?_
          simp only [List.drop_succ_cons, List.drop_zero]
          have yx1 := zx1.out
          have yx2 := zx2.out
          have yx5 := zx5.out
          have yx6 := zx6.out
          have vx9 := N6.out.1
          have vx10 := N5_6.out.1
          have HF8 := Lib.hid (Clo2.end (w := w) C1_2_5_6.out C2_5_6.out (b9 := ux5.heap.size) (b10 := ux2.heap.size) (by omega) N6.out.2.1 N5_6.out.2.1 ⟨by omega, by omega, fun x hx hn => by have := r3lt x hx hn; omega⟩ ⟨by omega, by omega, fun x hx hn => by have := r3lt x hx hn; omega⟩ ⟨by omega, by omega, fun x hx hn => by have := r4lt x hx hn; omega⟩ ⟨by omega, by omega, fun x hx hn => by have := r4lt x hx hn; omega⟩)
          have HT8 := Lib.hid (S2.out.call ((Tx6.out.2.setCell (p := ⟨ux5.heap.size, 0, none⟩) (by show w2.heap.size ≤ ux5.heap.size; omega) (.func (.func 181) #[] #[.pointer (some ⟨Bx1 + 1, 0, none⟩), .pointer (some ⟨Bx1, 0, none⟩)])).setCell (p := ⟨ux2.heap.size, 0, none⟩) (by show w2.heap.size ≤ ux2.heap.size; omega) (.func (.func 181) #[] #[.pointer (some ⟨Bx2 + 1, 0, none⟩), .pointer (some ⟨Bx2, 0, none⟩)])))
          obtain ⟨g1, g2, g3⟩ := N6.out
          obtain ⟨g4, g5, g6⟩ := N5_6.out
          have gn : ¬ ux5.heap.size = ux2.heap.size := by omega
          have gn' : ¬ ux2.heap.size = ux5.heap.size := by omega
          clear yx1 yx2 yx5 yx6 vx9 vx10
          clear hHeld6
          go_wp2_with fail
          go_meet
          exact ⟨ux5.heap.size, ux2.heap.size, Bx1, Bx2, rfl, rfl, HT8, HF8⟩
      · go_simp
        obtain ⟨ux7, hux7⟩ : ∃ W, ux1.alloc (.cells #[.nilFunc] 33) = W := ⟨_, rfl⟩
        have hv7 := hux7
        have hbx7 : Below ux1.heap.size ux1 ux7 := by rw [← hux7]; exact (Below.refl _ _).alloc (Nat.le_refl _) _
        have N7 := Lib.hid (show Nil9 w2 ux7 ux1.heap.size by rw [← hux7]; exact Nil9.new Tx1.out.2.size)
        have zx7 := Lib.hid (show ux7.heap.size = ux1.heap.size + 1 by rw [← hux7]; exact size_new _ _)
        rw [hv7]
        clear hux7 hv7
        have Tx7 := Lib.hid (And.intro (Tx1.out.1.call hbx7) (Tx1.out.2.trans (hbx7.mono Tx1.out.2.size)))
        have C1_7 := Lib.hid (C1.out.under hbx7)
        refine hK.out _ _ (KS8.out _ Tx7.out) (fun hHeld7 => ?_)
        clear hK K hHeld1 hbx7
        try simp only [Act.put, List.getElem_toArray, List.getElem_cons_zero, List.getElem_cons_succ, List.setIfInBounds_toArray, List.set_cons_zero, List.set_cons_succ]
        refine wpAnyK_two (i := 5) (j := 7) rfl rfl (by kernel_rfl) (fun K hK => ?_) (fun K hK => ?_)
        · go_simp
          with_reducible refine (pvalues_p a4 n4 cap4 y2 q2 j2 HP.out.k _ Tx7.out.1.r2).mono ?_
          rintro e ux8 ⟨Bx8, rfl, hbx8, hlx8, hmx8, hcx8⟩
          have Tx8 := Lib.hid (And.intro (Tx7.out.1.call hbx8) (Tx7.out.2.trans (hbx8.mono Tx7.out.2.size)))
          have zx8 := Lib.hid (And.intro hbx8.size (And.intro hlx8 hmx8))
          have C8 := Lib.hid hcx8
          clear hlx8 hmx8 hcx8
          have C1_7_8 := Lib.hid (C1_7.out.under hbx8)
          have N7_8 := Lib.hid (N7.out.call hbx8)
          refine hK.out _ _ (KS8.out _ Tx8.out) (fun hHeld8 => ?_)
          clear hK K hHeld7 hbx8
          try simp only [Act.put, List.getElem_toArray, List.getElem_cons_zero, List.getElem_cons_succ, List.setIfInBounds_toArray, List.set_cons_zero, List.set_cons_succ]
          refine wpAnyK_step (i := 7) rfl (by kernel_rfl) (fun K hK => ?_)
          go_simp
          obtain ⟨ux9, hux9⟩ : ∃ W, ux8.alloc (.cells #[.nilFunc] 33) = W := ⟨_, rfl⟩
          have hv9 := hux9
          have hbx9 : Below ux8.heap.size ux8 ux9 := by rw [← hux9]; exact (Below.refl _ _).alloc (Nat.le_refl _) _
          have N9 := Lib.hid (show Nil9 w2 ux9 ux8.heap.size by rw [← hux9]; exact Nil9.new Tx8.out.2.size)
          have zx9 := Lib.hid (show ux9.heap.size = ux8.heap.size + 1 by rw [← hux9]; exact size_new _ _)
          rw [hv9]
          clear hux9 hv9
          have Tx9 := Lib.hid (And.intro (Tx8.out.1.call hbx9) (Tx8.out.2.trans (hbx9.mono Tx8.out.2.size)))
          have C1_7_8_9 := Lib.hid (C1_7_8.out.under hbx9)
          have C8_9 := Lib.hid (C8.out.under hbx9)
          have N7_8_9 := Lib.hid (N7_8.out.call hbx9)
          refine hK.out _ _ (KS8.out _ Tx9.out) (fun hHeld9 => ?_)
          clear hK K hHeld8 hbx9
          try simp only [Act.put, List.getElem_toArray, List.getElem_cons_zero, List.getElem_cons_succ, List.setIfInBounds_toArray, List.set_cons_zero, List.set_cons_succ]
          refine wpAnyK_done (by kernel_rfl) ?_
          simp only [List.drop_succ_cons, List.drop_zero]
          have yx1 := zx1.out
          have yx7 := zx7.out
          have yx8 := zx8.out
          have yx9 := zx9.out
          have vx9 := N7_8_9.out.1
          have vx10 := N9.out.1
          have HF8 := Lib.hid (Clo2.end (w := w) C1_7_8_9.out C8_9.out (b9 := ux1.heap.size) (b10 := ux8.heap.size) (by omega) N7_8_9.out.2.1 N9.out.2.1 ⟨by omega, by omega, fun x hx hn => by have := r3lt x hx hn; omega⟩ ⟨by omega, by omega, fun x hx hn => by have := r3lt x hx hn; omega⟩ ⟨by omega, by omega, fun x hx hn => by have := r4lt x hx hn; omega⟩ ⟨by omega, by omega, fun x hx hn => by have := r4lt x hx hn; omega⟩)
          have HT8 := Lib.hid (S2.out.call ((Tx9.out.2.setCell (p := ⟨ux1.heap.size, 0, none⟩) (by show w2.heap.size ≤ ux1.heap.size; omega) (.func (.func 181) #[] #[.pointer (some ⟨Bx1 + 1, 0, none⟩), .pointer (some ⟨Bx1, 0, none⟩)])).setCell (p := ⟨ux8.heap.size, 0, none⟩) (by show w2.heap.size ≤ ux8.heap.size; omega) (.func (.func 181) #[] #[.pointer (some ⟨Bx8 + 1, 0, none⟩), .pointer (some ⟨Bx8, 0, none⟩)])))
          obtain ⟨g1, g2, g3⟩ := N7_8_9.out
          obtain ⟨g4, g5, g6⟩ := N9.out
          have gn : ¬ ux1.heap.size = ux8.heap.size := by omega
          have gn' : ¬ ux8.heap.size = ux1.heap.size := by omega
          clear yx1 yx7 yx8 yx9 vx9 vx10
          clear hHeld9
          go_wp2_with fail
          go_meet
          exact ⟨ux1.heap.size, ux8.heap.size, Bx1, Bx8, rfl, rfl, HT8, HF8⟩
        · go_simp
          obtain ⟨ux10, hux10⟩ : ∃ W, ux7.alloc (.cells #[.nilFunc] 33) = W := ⟨_, rfl⟩
          have hv10 := hux10
          have hbx10 : Below ux7.heap.size ux7 ux10 := by rw [← hux10]; exact (Below.refl _ _).alloc (Nat.le_refl _) _
          have N10 := Lib.hid (show Nil9 w2 ux10 ux7.heap.size by rw [← hux10]; exact Nil9.new Tx7.out.2.size)
          have zx10 := Lib.hid (show ux10.heap.size = ux7.heap.size + 1 by rw [← hux10]; exact size_new _ _)
          rw [hv10]
          clear hux10 hv10
          have Tx10 := Lib.hid (And.intro (Tx7.out.1.call hbx10) (Tx7.out.2.trans (hbx10.mono Tx7.out.2.size)))
          have C1_7_10 := Lib.hid (C1_7.out.under hbx10)
          have N7_10 := Lib.hid (N7.out.call hbx10)
          refine hK.out _ _ (KS8.out _ Tx10.out) (fun hHeld10 => ?_)
          clear hK K hHeld7 hbx10
          try simp only [Act.put, List.getElem_toArray, List.getElem_cons_zero, List.getElem_cons_succ, List.setIfInBounds_toArray, List.set_cons_zero, List.set_cons_succ]
          refine wpAnyK_step (i := 5) rfl (by kernel_rfl) (fun K hK => ?_)
          go_simp
          with_reducible refine (pvalues_p a4 n4 cap4 y2 q2 j2 HP.out.k _ Tx10.out.1.r2).mono ?_
          rintro e ux11 ⟨Bx11, rfl, hbx11, hlx11, hmx11, hcx11⟩
          have Tx11 := Lib.hid (And.intro (Tx10.out.1.call hbx11) (Tx10.out.2.trans (hbx11.mono Tx10.out.2.size)))
          have zx11 := Lib.hid (And.intro hbx11.size (And.intro hlx11 hmx11))
          have C11 := Lib.hid hcx11
          clear hlx11 hmx11 hcx11
          have C1_7_10_11 := Lib.hid (C1_7_10.out.under hbx11)
          have N7_10_11 := Lib.hid (N7_10.out.call hbx11)
          have N10_11 := Lib.hid (N10.out.call hbx11)
          refine hK.out _ _ (KS8.out _ Tx11.out) (fun hHeld11 => ?_)
          clear hK K hHeld10 hbx11
          try simp only [Act.put, List.getElem_toArray, List.getElem_cons_zero, List.getElem_cons_succ, List.setIfInBounds_toArray, List.set_cons_zero, List.set_cons_succ]
          refine wpAnyK_done (by kernel_rfl) ?_
          simp only [List.drop_succ_cons, List.drop_zero]
          have yx1 := zx1.out
          have yx7 := zx7.out
          have yx10 := zx10.out
          have yx11 := zx11.out
          have vx9 := N7_10_11.out.1
          have vx10 := N10_11.out.1
          have HF8 := Lib.hid (Clo2.end (w := w) C1_7_10_11.out C11.out (b9 := ux1.heap.size) (b10 := ux7.heap.size) (by omega) N7_10_11.out.2.1 N10_11.out.2.1 ⟨by omega, by omega, fun x hx hn => by have := r3lt x hx hn; omega⟩ ⟨by omega, by omega, fun x hx hn => by have := r3lt x hx hn; omega⟩ ⟨by omega, by omega, fun x hx hn => by have := r4lt x hx hn; omega⟩ ⟨by omega, by omega, fun x hx hn => by have := r4lt x hx hn; omega⟩)
          have HT8 := Lib.hid (S2.out.call ((Tx11.out.2.setCell (p := ⟨ux1.heap.size, 0, none⟩) (by show w2.heap.size ≤ ux1.heap.size; omega) (.func (.func 181) #[] #[.pointer (some ⟨Bx1 + 1, 0, none⟩), .pointer (some ⟨Bx1, 0, none⟩)])).setCell (p := ⟨ux7.heap.size, 0, none⟩) (by show w2.heap.size ≤ ux7.heap.size; omega) (.func (.func 181) #[] #[.pointer (some ⟨Bx11 + 1, 0, none⟩), .pointer (some ⟨Bx11, 0, none⟩)])))
          obtain ⟨g1, g2, g3⟩ := N7_10_11.out
          obtain ⟨g4, g5, g6⟩ := N10_11.out
          have gn : ¬ ux1.heap.size = ux7.heap.size := by omega
          have gn' : ¬ ux7.heap.size = ux1.heap.size := by omega
          clear yx1 yx7 yx10 yx11 vx9 vx10
          clear hHeld11
          go_wp2_with fail
          go_meet
          exact ⟨ux1.heap.size, ux7.heap.size, Bx1, Bx11, rfl, rfl, HT8, HF8⟩
      · go_simp
        obtain ⟨ux12, hux12⟩ : ∃ W, ux1.alloc (.cells #[.nilFunc] 33) = W := ⟨_, rfl⟩
        have hv12 := hux12
        have hbx12 : Below ux1.heap.size ux1 ux12 := by rw [← hux12]; exact (Below.refl _ _).alloc (Nat.le_refl _) _
        have N12 := Lib.hid (show Nil9 w2 ux12 ux1.heap.size by rw [← hux12]; exact Nil9.new Tx1.out.2.size)
        have zx12 := Lib.hid (show ux12.heap.size = ux1.heap.size + 1 by rw [← hux12]; exact size_new _ _)
        rw [hv12]
        clear hux12 hv12
        have Tx12 := Lib.hid (And.intro (Tx1.out.1.call hbx12) (Tx1.out.2.trans (hbx12.mono Tx1.out.2.size)))
        have C1_12 := Lib.hid (C1.out.under hbx12)
        refine hK.out _ _ (KS8.out _ Tx12.out) (fun hHeld12 => ?_)
        clear hK K hHeld1 hbx12
        try simp only [Act.put, List.getElem_toArray, List.getElem_cons_zero, List.getElem_cons_succ, List.setIfInBounds_toArray, List.set_cons_zero, List.set_cons_succ]
        refine wpAnyK_two (i := 5) (j := 6) rfl rfl (by kernel_rfl) (fun K hK => ?_) (fun K hK => ?_)
        · go_simp
          with_reducible refine (pvalues_p a4 n4 cap4 y2 q2 j2 HP.out.k _ Tx12.out.1.r2).mono ?_
          rintro e ux13 ⟨Bx13, rfl, hbx13, hlx13, hmx13, hcx13⟩
          have Tx13 := Lib.hid (And.intro (Tx12.out.1.call hbx13) (Tx12.out.2.trans (hbx13.mono Tx12.out.2.size)))
          have zx13 := Lib.hid (And.intro hbx13.size (And.intro hlx13 hmx13))
          have C13 := Lib.hid hcx13
          clear hlx13 hmx13 hcx13
          have C1_12_13 := Lib.hid (C1_12.out.under hbx13)
          have N12_13 := Lib.hid (N12.out.call hbx13)
          refine hK.out _ _ (KS8.out _ Tx13.out) (fun hHeld13 => ?_)
          clear hK K hHeld12 hbx13
          try simp only [Act.put, List.getElem_toArray, List.getElem_cons_zero, List.getElem_cons_succ, List.setIfInBounds_toArray, List.set_cons_zero, List.set_cons_succ]
          refine wpAnyK_step (i := 6) rfl (by kernel_rfl) (fun K hK => ?_)
          go_simp
          obtain ⟨ux14, hux14⟩ : ∃ W, ux13.alloc (.cells #[.nilFunc] 33) = W := ⟨_, rfl⟩
          have hv14 := hux14
          have hbx14 : Below ux13.heap.size ux13 ux14 := by rw [← hux14]; exact (Below.refl _ _).alloc (Nat.le_refl _) _
          have N14 := Lib.hid (show Nil9 w2 ux14 ux13.heap.size by rw [← hux14]; exact Nil9.new Tx13.out.2.size)
          have zx14 := Lib.hid (show ux14.heap.size = ux13.heap.size + 1 by rw [← hux14]; exact size_new _ _)
          rw [hv14]
          clear hux14 hv14
          have Tx14 := Lib.hid (And.intro (Tx13.out.1.call hbx14) (Tx13.out.2.trans (hbx14.mono Tx13.out.2.size)))
          have C1_12_13_14 := Lib.hid (C1_12_13.out.under hbx14)
          have C13_14 := Lib.hid (C13.out.under hbx14)
          have N12_13_14 := Lib.hid (N12_13.out.call hbx14)
          refine hK.out _ _ (KS8.out _ Tx14.out) (fun hHeld14 => ?_)
          clear hK K hHeld13 hbx14
          try simp only [Act.put, List.getElem_toArray, List.getElem_cons_zero, List.getElem_cons_succ, List.setIfInBounds_toArray, List.set_cons_zero, List.set_cons_succ]
          refine wpAnyK_done (by kernel_rfl) ?_
          simp only [List.drop_succ_cons, List.drop_zero]
          have yx1 := zx1.out
          have yx12 := zx12.out
          have yx13 := zx13.out
          have yx14 := zx14.out
          have vx9 := N14.out.1
          have vx10 := N12_13_14.out.1
          have HF8 := Lib.hid (Clo2.end (w := w) C1_12_13_14.out C13_14.out (b9 := ux13.heap.size) (b10 := ux1.heap.size) (by omega) N14.out.2.1 N12_13_14.out.2.1 ⟨by omega, by omega, fun x hx hn => by have := r3lt x hx hn; omega⟩ ⟨by omega, by omega, fun x hx hn => by have := r3lt x hx hn; omega⟩ ⟨by omega, by omega, fun x hx hn => by have := r4lt x hx hn; omega⟩ ⟨by omega, by omega, fun x hx hn => by have := r4lt x hx hn; omega⟩)
          have HT8 := Lib.hid (S2.out.call ((Tx14.out.2.setCell (p := ⟨ux13.heap.size, 0, none⟩) (by show w2.heap.size ≤ ux13.heap.size; omega) (.func (.func 181) #[] #[.pointer (some ⟨Bx1 + 1, 0, none⟩), .pointer (some ⟨Bx1, 0, none⟩)])).setCell (p := ⟨ux1.heap.size, 0, none⟩) (by show w2.heap.size ≤ ux1.heap.size; omega) (.func (.func 181) #[] #[.pointer (some ⟨Bx13 + 1, 0, none⟩), .pointer (some ⟨Bx13, 0, none⟩)])))
          obtain ⟨g1, g2, g3⟩ := N14.out
          obtain ⟨g4, g5, g6⟩ := N12_13_14.out
          have gn : ¬ ux13.heap.size = ux1.heap.size := by omega
          have gn' : ¬ ux1.heap.size = ux13.heap.size := by omega
          clear yx1 yx12 yx13 yx14 vx9 vx10
          clear hHeld14
          go_wp2_with fail
          go_meet
          exact ⟨ux13.heap.size, ux1.heap.size, Bx1, Bx13, rfl, rfl, HT8, HF8⟩
        · go_simp
          obtain ⟨ux15, hux15⟩ : ∃ W, ux12.alloc (.cells #[.nilFunc] 33) = W := ⟨_, rfl⟩
          have hv15 := hux15
          have hbx15 : Below ux12.heap.size ux12 ux15 := by rw [← hux15]; exact (Below.refl _ _).alloc (Nat.le_refl _) _
          have N15 := Lib.hid (show Nil9 w2 ux15 ux12.heap.size by rw [← hux15]; exact Nil9.new Tx12.out.2.size)
          have zx15 := Lib.hid (show ux15.heap.size = ux12.heap.size + 1 by rw [← hux15]; exact size_new _ _)
          rw [hv15]
          clear hux15 hv15
          have Tx15 := Lib.hid (And.intro (Tx12.out.1.call hbx15) (Tx12.out.2.trans (hbx15.mono Tx12.out.2.size)))
          have C1_12_15 := Lib.hid (C1_12.out.under hbx15)
          have N12_15 := Lib.hid (N12.out.call hbx15)
          refine hK.out _ _ (KS8.out _ Tx15.out) (fun hHeld15 => ?_)
          clear hK K hHeld12 hbx15
          try simp only [Act.put, List.getElem_toArray, List.getElem_cons_zero, List.getElem_cons_succ, List.setIfInBounds_toArray, List.set_cons_zero, List.set_cons_succ]
          refine wpAnyK_step (i := 5) rfl (by kernel_rfl) (fun K hK => ?_)
          go_simp
          with_reducible refine (pvalues_p a4 n4 cap4 y2 q2 j2 HP.out.k _ Tx15.out.1.r2).mono ?_
          rintro e ux16 ⟨Bx16, rfl, hbx16, hlx16, hmx16, hcx16⟩
          have Tx16 := Lib.hid (And.intro (Tx15.out.1.call hbx16) (Tx15.out.2.trans (hbx16.mono Tx15.out.2.size)))
          have zx16 := Lib.hid (And.intro hbx16.size (And.intro hlx16 hmx16))
          have C16 := Lib.hid hcx16
          clear hlx16 hmx16 hcx16
          have C1_12_15_16 := Lib.hid (C1_12_15.out.under hbx16)
          have N15_16 := Lib.hid (N15.out.call hbx16)
          have N12_15_16 := Lib.hid (N12_15.out.call hbx16)
          refine hK.out _ _ (KS8.out _ Tx16.out) (fun hHeld16 => ?_)
          clear hK K hHeld15 hbx16
          try simp only [Act.put, List.getElem_toArray, List.getElem_cons_zero, List.getElem_cons_succ, List.setIfInBounds_toArray, List.set_cons_zero, List.set_cons_succ]
          refine wpAnyK_done (by kernel_rfl) ?_
          simp only [List.drop_succ_cons, List.drop_zero]
          have yx1 := zx1.out
          have yx12 := zx12.out
          have yx15 := zx15.out
          have yx16 := zx16.out
          have vx9 := N15_16.out.1
          have vx10 := N12_15_16.out.1
          have HF8 := Lib.hid (Clo2.end (w := w) C1_12_15_16.out C16.out (b9 := ux12.heap.size) (b10 := ux1.heap.size) (by omega) N15_16.out.2.1 N12_15_16.out.2.1 ⟨by omega, by omega, fun x hx hn => by have := r3lt x hx hn; omega⟩ ⟨by omega, by omega, fun x hx hn => by have := r3lt x hx hn; omega⟩ ⟨by omega, by omega, fun x hx hn => by have := r4lt x hx hn; omega⟩ ⟨by omega, by omega, fun x hx hn => by have := r4lt x hx hn; omega⟩)
          have HT8 := Lib.hid (S2.out.call ((Tx16.out.2.setCell (p := ⟨ux12.heap.size, 0, none⟩) (by show w2.heap.size ≤ ux12.heap.size; omega) (.func (.func 181) #[] #[.pointer (some ⟨Bx1 + 1, 0, none⟩), .pointer (some ⟨Bx1, 0, none⟩)])).setCell (p := ⟨ux1.heap.size, 0, none⟩) (by show w2.heap.size ≤ ux1.heap.size; omega) (.func (.func 181) #[] #[.pointer (some ⟨Bx16 + 1, 0, none⟩), .pointer (some ⟨Bx16, 0, none⟩)])))
          obtain ⟨g1, g2, g3⟩ := N15_16.out
          obtain ⟨g4, g5, g6⟩ := N12_15_16.out
          have gn : ¬ ux12.heap.size = ux1.heap.size := by omega
          have gn' : ¬ ux1.heap.size = ux12.heap.size := by omega
          clear yx1 yx12 yx15 yx16 vx9 vx10
          clear hHeld16
          go_wp2_with fail
          go_meet
          exact ⟨ux12.heap.size, ux1.heap.size, Bx1, Bx16, rfl, rfl, HT8, HF8⟩
    · go_simp
      obtain ⟨ux17, hv17⟩ : ∃ W, (w2.alloc (.cells #[.nilFunc] 33)).drew = W := ⟨_, rfl⟩
      have hux17 : w2.drew.alloc (.cells #[.nilFunc] 33) = ux17 := hv17
      have hbx17 : Below w2.drew.heap.size w2.drew ux17 := by rw [← hux17]; exact (Below.refl _ _).alloc (Nat.le_refl _) _
      have N17 := Lib.hid (show Nil9 w2 ux17 w2.heap.size by rw [← hux17]; exact Nil9.new T0'.out.2.size)
      have zx17 := Lib.hid (show ux17.heap.size = w2.heap.size + 1 by rw [← hux17]; exact size_new _ _)
      rw [hv17]
      clear hux17 hv17
      have Tx17 := Lib.hid (And.intro (T0'.out.1.call hbx17) (T0'.out.2.trans (hbx17.mono T0'.out.2.size)))
      refine hK.out _ _ (KS8.out _ Tx17.out) (fun hHeld17 => ?_)
      clear hK K hHeld0 hbx17
      try simp only [Act.put, List.getElem_toArray, List.getElem_cons_zero, List.getElem_cons_succ, List.setIfInBounds_toArray, List.set_cons_zero, List.set_cons_succ]
      refine wpAnyK_two (i := 2) (j := 7) rfl rfl (by kernel_rfl) (fun K hK => ?_) (fun K hK => ?_)
      · go_simp
        with_reducible refine (pvalues_p a3 n3 cap3 y1 q1 j1 HP.out.g _ Tx17.out.1.r1).mono ?_
        rintro e ux18 ⟨Bx18, rfl, hbx18, hlx18, hmx18, hcx18⟩
        have Tx18 := Lib.hid (And.intro (Tx17.out.1.call hbx18) (Tx17.out.2.trans (hbx18.mono Tx17.out.2.size)))
        have zx18 := Lib.hid (And.intro hbx18.size (And.intro hlx18 hmx18))
        have C18 := Lib.hid hcx18
        clear hlx18 hmx18 hcx18
        have N17_18 := Lib.hid (N17.out.call hbx18)
        refine hK.out _ _ (KS8.out _ Tx18.out) (fun hHeld18 => ?_)
        clear hK K hHeld17 hbx18
        try simp only [Act.put, List.getElem_toArray, List.getElem_cons_zero, List.getElem_cons_succ, List.setIfInBounds_toArray, List.set_cons_zero, List.set_cons_succ]
        refine wpAnyK_two (i := 5) (j := 7) rfl rfl (by kernel_rfl) (fun K hK => ?_) (fun K hK => ?_)
        · go_simp
          with_reducible refine (pvalues_p a4 n4 cap4 y2 q2 j2 HP.out.k _ Tx18.out.1.r2).mono ?_
          rintro e ux19 ⟨Bx19, rfl, hbx19, hlx19, hmx19, hcx19⟩
          have Tx19 := Lib.hid (And.intro (Tx18.out.1.call hbx19) (Tx18.out.2.trans (hbx19.mono Tx18.out.2.size)))
          have zx19 := Lib.hid (And.intro hbx19.size (And.intro hlx19 hmx19))
          have C19 := Lib.hid hcx19
          clear hlx19 hmx19 hcx19
          have C18_19 := Lib.hid (C18.out.under hbx19)
          have N17_18_19 := Lib.hid (N17_18.out.call hbx19)
          refine hK.out _ _ (KS8.out _ Tx19.out) (fun hHeld19 => ?_)
          clear hK K hHeld18 hbx19
          try simp only [Act.put, List.getElem_toArray, List.getElem_cons_zero, List.getElem_cons_succ, List.setIfInBounds_toArray, List.set_cons_zero, List.set_cons_succ]
          refine wpAnyK_step (i := 7) rfl (by kernel_rfl) (fun K hK => ?_)
          go_simp
          obtain ⟨ux20, hux20⟩ : ∃ W, ux19.alloc (.cells #[.nilFunc] 33) = W := ⟨_, rfl⟩
          have hv20 := hux20
          have hbx20 : Below ux19.heap.size ux19 ux20 := by rw [← hux20]; exact (Below.refl _ _).alloc (Nat.le_refl _) _
          have N20 := Lib.hid (show Nil9 w2 ux20 ux19.heap.size by rw [← hux20]; exact Nil9.new Tx19.out.2.size)
          have zx20 := Lib.hid (show ux20.heap.size = ux19.heap.size + 1 by rw [← hux20]; exact size_new _ _)
          rw [hv20]
          clear hux20 hv20
          have Tx20 := Lib.hid (And.intro (Tx19.out.1.call hbx20) (Tx19.out.2.trans (hbx20.mono Tx19.out.2.size)))
          have C18_19_20 := Lib.hid (C18_19.out.under hbx20)
          have C19_20 := Lib.hid (C19.out.under hbx20)
          have N17_18_19_20 := Lib.hid (N17_18_19.out.call hbx20)
          refine hK.out _ _ (KS8.out _ Tx20.out) (fun hHeld20 => ?_)
          clear hK K hHeld19 hbx20
          try simp only [Act.put, List.getElem_toArray, List.getElem_cons_zero, List.getElem_cons_succ, List.setIfInBounds_toArray, List.set_cons_zero, List.set_cons_succ]
          refine wpAnyK_done (by kernel_rfl) ?_
          simp only [List.drop_succ_cons, List.drop_zero]
          have yx17 := zx17.out
          have yx18 := zx18.out
          have yx19 := zx19.out
          have yx20 := zx20.out
          have vx9 := N17_18_19_20.out.1
          have vx10 := N20.out.1
          have HF8 := Lib.hid (Clo2.end (w := w) C18_19_20.out C19_20.out (b9 := w2.heap.size) (b10 := ux19.heap.size) (by omega) N17_18_19_20.out.2.1 N20.out.2.1 ⟨by omega, by omega, fun x hx hn => by have := r3lt x hx hn; omega⟩ ⟨by omega, by omega, fun x hx hn => by have := r3lt x hx hn; omega⟩ ⟨by omega, by omega, fun x hx hn => by have := r4lt x hx hn; omega⟩ ⟨by omega, by omega, fun x hx hn => by have := r4lt x hx hn; omega⟩)
          have HT8 := Lib.hid (S2.out.call ((Tx20.out.2.setCell (p := ⟨w2.heap.size, 0, none⟩) (by show w2.heap.size ≤ w2.heap.size; omega) (.func (.func 181) #[] #[.pointer (some ⟨Bx18 + 1, 0, none⟩), .pointer (some ⟨Bx18, 0, none⟩)])).setCell (p := ⟨ux19.heap.size, 0, none⟩) (by show w2.heap.size ≤ ux19.heap.size; omega) (.func (.func 181) #[] #[.pointer (some ⟨Bx19 + 1, 0, none⟩), .pointer (some ⟨Bx19, 0, none⟩)])))
          obtain ⟨g1, g2, g3⟩ := N17_18_19_20.out
          obtain ⟨g4, g5, g6⟩ := N20.out
          have gn : ¬ w2.heap.size = ux19.heap.size := by omega
          have gn' : ¬ ux19.heap.size = w2.heap.size := by omega
          clear yx17 yx18 yx19 yx20 vx9 vx10
          clear hHeld20
          go_wp2_with fail
          go_meet
          exact ⟨w2.heap.size, ux19.heap.size, Bx18, Bx19, rfl, rfl, HT8, HF8⟩
        · go_simp
          obtain ⟨ux21, hux21⟩ : ∃ W, ux18.alloc (.cells #[.nilFunc] 33) = W := ⟨_, rfl⟩
          have hv21 := hux21
          have hbx21 : Below ux18.heap.size ux18 ux21 := by rw [← hux21]; exact (Below.refl _ _).alloc (Nat.le_refl _) _
          have N21 := Lib.hid (show Nil9 w2 ux21 ux18.heap.size by rw [← hux21]; exact Nil9.new Tx18.out.2.size)
          have zx21 := Lib.hid (show ux21.heap.size = ux18.heap.size + 1 by rw [← hux21]; exact size_new _ _)
          rw [hv21]
          clear hux21 hv21
          have Tx21 := Lib.hid (And.intro (Tx18.out.1.call hbx21) (Tx18.out.2.trans (hbx21.mono Tx18.out.2.size)))
          have C18_21 := Lib.hid (C18.out.under hbx21)
          have N17_18_21 := Lib.hid (N17_18.out.call hbx21)
          refine hK.out _ _ (KS8.out _ Tx21.out) (fun hHeld21 => ?_)
          clear hK K hHeld18 hbx21
          try simp only [Act.put, List.getElem_toArray, List.getElem_cons_zero, List.getElem_cons_succ, List.setIfInBounds_toArray, List.set_cons_zero, List.set_cons_succ]
          refine wpAnyK_step (i := 5) rfl (by kernel_rfl) (fun K hK => ?_)
          go_simp
          with_reducible refine (pvalues_p a4 n4 cap4 y2 q2 j2 HP.out.k _ Tx21.out.1.r2).mono ?_
          rintro e ux22 ⟨Bx22, rfl, hbx22, hlx22, hmx22, hcx22⟩
          have Tx22 := Lib.hid (And.intro (Tx21.out.1.call hbx22) (Tx21.out.2.trans (hbx22.mono Tx21.out.2.size)))
          have zx22 := Lib.hid (And.intro hbx22.size (And.intro hlx22 hmx22))
          have C22 := Lib.hid hcx22
          clear hlx22 hmx22 hcx22
          have C18_21_22 := Lib.hid (C18_21.out.under hbx22)
          have N17_18_21_22 := Lib.hid (N17_18_21.out.call hbx22)
          have N21_22 := Lib.hid (N21.out.call hbx22)
          refine hK.out _ _ (KS8.out _ Tx22.out) (fun hHeld22 => ?_)
          clear hK K hHeld21 hbx22
          try simp only [Act.put, List.getElem_toArray, List.getElem_cons_zero, List.getElem_cons_succ, List.setIfInBounds_toArray, List.set_cons_zero, List.set_cons_succ]
          refine wpAnyK_done (by kernel_rfl) ?_
          simp only [List.drop_succ_cons, List.drop_zero]
          have yx17 := zx17.out
          have yx18 := zx18.out
          have yx21 := zx21.out
          have yx22 := zx22.out
          have vx9 := N17_18_21_22.out.1
          have vx10 := N21_22.out.1
          have HF8 := Lib.hid (Clo2.end (w := w) C18_21_22.out C22.out (b9 := w2.heap.size) (b10 := ux18.heap.size) (by omega) N17_18_21_22.out.2.1 N21_22.out.2.1 ⟨by omega, by omega, fun x hx hn => by have := r3lt x hx hn; omega⟩ ⟨by omega, by omega, fun x hx hn => by have := r3lt x hx hn; omega⟩ ⟨by omega, by omega, fun x hx hn => by have := r4lt x hx hn; omega⟩ ⟨by omega, by omega, fun x hx hn => by have := r4lt x hx hn; omega⟩)
          have HT8 := Lib.hid (S2.out.call ((Tx22.out.2.setCell (p := ⟨w2.heap.size, 0, none⟩) (by show w2.heap.size ≤ w2.heap.size; omega) (.func (.func 181) #[] #[.pointer (some ⟨Bx18 + 1, 0, none⟩), .pointer (some ⟨Bx18, 0, none⟩)])).setCell (p := ⟨ux18.heap.size, 0, none⟩) (by show w2.heap.size ≤ ux18.heap.size; omega) (.func (.func 181) #[] #[.pointer (some ⟨Bx22 + 1, 0, none⟩), .pointer (some ⟨Bx22, 0, none⟩)])))
          obtain ⟨g1, g2, g3⟩ := N17_18_21_22.out
          obtain ⟨g4, g5, g6⟩ := N21_22.out
          have gn : ¬ w2.heap.size = ux18.heap.size := by omega
          have gn' : ¬ ux18.heap.size = w2.heap.size := by omega
          clear yx17 yx18 yx21 yx22 vx9 vx10
          clear hHeld22
          go_wp2_with fail
          go_meet
          exact ⟨w2.heap.size, ux18.heap.size, Bx18, Bx22, rfl, rfl, HT8, HF8⟩
      · go_simp
        obtain ⟨ux23, hux23⟩ : ∃ W, ux17.alloc (.cells #[.nilFunc] 33) = W := ⟨_, rfl⟩
        have hv23 := hux23
        have hbx23 : Below ux17.heap.size ux17 ux23 := by rw [← hux23]; exact (Below.refl _ _).alloc (Nat.le_refl _) _
        have N23 := Lib.hid (show Nil9 w2 ux23 ux17.heap.size by rw [← hux23]; exact Nil9.new Tx17.out.2.size)
        have zx23 := Lib.hid (show ux23.heap.size = ux17.heap.size + 1 by rw [← hux23]; exact size_new _ _)
        rw [hv23]
        clear hux23 hv23
        have Tx23 := Lib.hid (And.intro (Tx17.out.1.call hbx23) (Tx17.out.2.trans (hbx23.mono Tx17.out.2.size)))
        have N17_23 := Lib.hid (N17.out.call hbx23)
        refine hK.out _ _ (KS8.out _ Tx23.out) (fun hHeld23 => ?_)
        clear hK K hHeld17 hbx23
        try simp only [Act.put, List.getElem_toArray, List.getElem_cons_zero, List.getElem_cons_succ, List.setIfInBounds_toArray, List.set_cons_zero, List.set_cons_succ]
        refine wpAnyK_step (i := 2) rfl (by kernel_rfl) (fun K hK => ?_)
        go_simp
        with_reducible refine (pvalues_p a3 n3 cap3 y1 q1 j1 HP.out.g _ Tx23.out.1.r1).mono ?_
        rintro e ux24 ⟨Bx24, rfl, hbx24, hlx24, hmx24, hcx24⟩
        have Tx24 := Lib.hid (And.intro (Tx23.out.1.call hbx24) (Tx23.out.2.trans (hbx24.mono Tx23.out.2.size)))
        have zx24 := Lib.hid (And.intro hbx24.size (And.intro hlx24 hmx24))
        have C24 := Lib.hid hcx24
        clear hlx24 hmx24 hcx24
        have N17_23_24 := Lib.hid (N17_23.out.call hbx24)
        have N23_24 := Lib.hid (N23.out.call hbx24)
        refine hK.out _ _ (KS8.out _ Tx24.out) (fun hHeld24 => ?_)
        clear hK K hHeld23 hbx24
        try simp only [Act.put, List.getElem_toArray, List.getElem_cons_zero, List.getElem_cons_succ, List.setIfInBounds_toArray, List.set_cons_zero, List.set_cons_succ]
        refine wpAnyK_step (i := 5) rfl (by kernel_rfl) (fun K hK => ?_)
        go_simp
        with_reducible refine (pvalues_p a4 n4 cap4 y2 q2 j2 HP.out.k _ Tx24.out.1.r2).mono ?_
        rintro e ux25 ⟨Bx25, rfl, hbx25, hlx25, hmx25, hcx25⟩
        have Tx25 := Lib.hid (And.intro (Tx24.out.1.call hbx25) (Tx24.out.2.trans (hbx25.mono Tx24.out.2.size)))
        have zx25 := Lib.hid (And.intro hbx25.size (And.intro hlx25 hmx25))
        have C25 := Lib.hid hcx25
        clear hlx25 hmx25 hcx25
        have C24_25 := Lib.hid (C24.out.under hbx25)
        have N17_23_24_25 := Lib.hid (N17_23_24.out.call hbx25)
        have N23_24_25 := Lib.hid (N23_24.out.call hbx25)
        refine hK.out _ _ (KS8.out _ Tx25.out) (fun hHeld25 => ?_)
        clear hK K hHeld24 hbx25
        try simp only [Act.put, List.getElem_toArray, List.getElem_cons_zero, List.getElem_cons_succ, List.setIfInBounds_toArray, List.set_cons_zero, List.set_cons_succ]
        refine wpAnyK_done (by kernel_rfl) ?_
        simp only [List.drop_succ_cons, List.drop_zero]
        have yx17 := zx17.out
        have yx23 := zx23.out
        have yx24 := zx24.out
        have yx25 := zx25.out
        have vx9 := N17_23_24_25.out.1
        have vx10 := N23_24_25.out.1
        have HF8 := Lib.hid (Clo2.end (w := w) C24_25.out C25.out (b9 := w2.heap.size) (b10 := ux17.heap.size) (by omega) N17_23_24_25.out.2.1 N23_24_25.out.2.1 ⟨by omega, by omega, fun x hx hn => by have := r3lt x hx hn; omega⟩ ⟨by omega, by omega, fun x hx hn => by have := r3lt x hx hn; omega⟩ ⟨by omega, by omega, fun x hx hn => by have := r4lt x hx hn; omega⟩ ⟨by omega, by omega, fun x hx hn => by have := r4lt x hx hn; omega⟩)
        have HT8 := Lib.hid (S2.out.call ((Tx25.out.2.setCell (p := ⟨w2.heap.size, 0, none⟩) (by show w2.heap.size ≤ w2.heap.size; omega) (.func (.func 181) #[] #[.pointer (some ⟨Bx24 + 1, 0, none⟩), .pointer (some ⟨Bx24, 0, none⟩)])).setCell (p := ⟨ux17.heap.size, 0, none⟩) (by show w2.heap.size ≤ ux17.heap.size; omega) (.func (.func 181) #[] #[.pointer (some ⟨Bx25 + 1, 0, none⟩), .pointer (some ⟨Bx25, 0, none⟩)])))
        obtain ⟨g1, g2, g3⟩ := N17_23_24_25.out
        obtain ⟨g4, g5, g6⟩ := N23_24_25.out
        have gn : ¬ w2.heap.size = ux17.heap.size := by omega
        have gn' : ¬ ux17.heap.size = w2.heap.size := by omega
        clear yx17 yx23 yx24 yx25 vx9 vx10
        clear hHeld25
        go_wp2_with fail
        go_meet
        exact ⟨w2.heap.size, ux17.heap.size, Bx24, Bx25, rfl, rfl, HT8, HF8⟩
    · go_simp
      obtain ⟨ux26, hv26⟩ : ∃ W, (w2.alloc (.cells #[.nilFunc] 33)).drew = W := ⟨_, rfl⟩
      have hux26 : w2.drew.alloc (.cells #[.nilFunc] 33) = ux26 := hv26
      have hbx26 : Below w2.drew.heap.size w2.drew ux26 := by rw [← hux26]; exact (Below.refl _ _).alloc (Nat.le_refl _) _
      have N26 := Lib.hid (show Nil9 w2 ux26 w2.heap.size by rw [← hux26]; exact Nil9.new T0'.out.2.size)
      have zx26 := Lib.hid (show ux26.heap.size = w2.heap.size + 1 by rw [← hux26]; exact size_new _ _)
      rw [hv26]
      clear hux26 hv26
      have Tx26 := Lib.hid (And.intro (T0'.out.1.call hbx26) (T0'.out.2.trans (hbx26.mono T0'.out.2.size)))
      refine hK.out _ _ (KS8.out _ Tx26.out) (fun hHeld26 => ?_)
      clear hK K hHeld0 hbx26
      try simp only [Act.put, List.getElem_toArray, List.getElem_cons_zero, List.getElem_cons_succ, List.setIfInBounds_toArray, List.set_cons_zero, List.set_cons_succ]
      refine wpAnyK_two (i := 2) (j := 6) rfl rfl (by kernel_rfl) (fun K hK => ?_) (fun K hK => ?_)
      · go_simp
        with_reducible refine (pvalues_p a3 n3 cap3 y1 q1 j1 HP.out.g _ Tx26.out.1.r1).mono ?_
        rintro e ux27 ⟨Bx27, rfl, hbx27, hlx27, hmx27, hcx27⟩
        have Tx27 := Lib.hid (And.intro (Tx26.out.1.call hbx27) (Tx26.out.2.trans (hbx27.mono Tx26.out.2.size)))
        have zx27 := Lib.hid (And.intro hbx27.size (And.intro hlx27 hmx27))
        have C27 := Lib.hid hcx27
        clear hlx27 hmx27 hcx27
        have N26_27 := Lib.hid (N26.out.call hbx27)
        refine hK.out _ _ (KS8.out _ Tx27.out) (fun hHeld27 => ?_)
        clear hK K hHeld26 hbx27
        try simp only [Act.put, List.getElem_toArray, List.getElem_cons_zero, List.getElem_cons_succ, List.setIfInBounds_toArray, List.set_cons_zero, List.set_cons_succ]
        refine wpAnyK_two (i := 5) (j := 6) rfl rfl (by kernel_rfl) (fun K hK => ?_) (fun K hK => ?_)
        · go_simp
          with_reducible refine (pvalues_p a4 n4 cap4 y2 q2 j2 HP.out.k _ Tx27.out.1.r2).mono ?_
          rintro e ux28 ⟨Bx28, rfl, hbx28, hlx28, hmx28, hcx28⟩
          have Tx28 := Lib.hid (And.intro (Tx27.out.1.call hbx28) (Tx27.out.2.trans (hbx28.mono Tx27.out.2.size)))
          have zx28 := Lib.hid (And.intro hbx28.size (And.intro hlx28 hmx28))
          have C28 := Lib.hid hcx28
          clear hlx28 hmx28 hcx28
          have C27_28 := Lib.hid (C27.out.under hbx28)
          have N26_27_28 := Lib.hid (N26_27.out.call hbx28)
          refine hK.out _ _ (KS8.out _ Tx28.out) (fun hHeld28 => ?_)
          clear hK K hHeld27 hbx28
          try simp only [Act.put, List.getElem_toArray, List.getElem_cons_zero, List.getElem_cons_succ, List.setIfInBounds_toArray, List.set_cons_zero, List.set_cons_succ]
          refine wpAnyK_step (i := 6) rfl (by kernel_rfl) (fun K hK => ?_)
          go_simp
          obtain ⟨ux29, hux29⟩ : ∃ W, ux28.alloc (.cells #[.nilFunc] 33) = W := ⟨_, rfl⟩
          have hv29 := hux29
          have hbx29 : Below ux28.heap.size ux28 ux29 := by rw [← hux29]; exact (Below.refl _ _).alloc (Nat.le_refl _) _
          have N29 := Lib.hid (show Nil9 w2 ux29 ux28.heap.size by rw [← hux29]; exact Nil9.new Tx28.out.2.size)
          have zx29 := Lib.hid (show ux29.heap.size = ux28.heap.size + 1 by rw [← hux29]; exact size_new _ _)
          rw [hv29]
          clear hux29 hv29
          have Tx29 := Lib.hid (And.intro (Tx28.out.1.call hbx29) (Tx28.out.2.trans (hbx29.mono Tx28.out.2.size)))
          have C27_28_29 := Lib.hid (C27_28.out.under hbx29)
          have C28_29 := Lib.hid (C28.out.under hbx29)
          have N26_27_28_29 := Lib.hid (N26_27_28.out.call hbx29)
          refine hK.out _ _ (KS8.out _ Tx29.out) (fun hHeld29 => ?_)
          clear hK K hHeld28 hbx29
          try simp only [Act.put, List.getElem_toArray, List.getElem_cons_zero, List.getElem_cons_succ, List.setIfInBounds_toArray, List.set_cons_zero, List.set_cons_succ]
          refine wpAnyK_done (by kernel_rfl) ?_
          simp only [List.drop_succ_cons, List.drop_zero]
          have yx26 := zx26.out
          have yx27 := zx27.out
          have yx28 := zx28.out
          have yx29 := zx29.out
          have vx9 := N29.out.1
          have vx10 := N26_27_28_29.out.1
          have HF8 := Lib.hid (Clo2.end (w := w) C27_28_29.out C28_29.out (b9 := ux28.heap.size) (b10 := w2.heap.size) (by omega) N29.out.2.1 N26_27_28_29.out.2.1 ⟨by omega, by omega, fun x hx hn => by have := r3lt x hx hn; omega⟩ ⟨by omega, by omega, fun x hx hn => by have := r3lt x hx hn; omega⟩ ⟨by omega, by omega, fun x hx hn => by have := r4lt x hx hn; omega⟩ ⟨by omega, by omega, fun x hx hn => by have := r4lt x hx hn; omega⟩)
          have HT8 := Lib.hid (S2.out.call ((Tx29.out.2.setCell (p := ⟨ux28.heap.size, 0, none⟩) (by show w2.heap.size ≤ ux28.heap.size; omega) (.func (.func 181) #[] #[.pointer (some ⟨Bx27 + 1, 0, none⟩), .pointer (some ⟨Bx27, 0, none⟩)])).setCell (p := ⟨w2.heap.size, 0, none⟩) (by show w2.heap.size ≤ w2.heap.size; omega) (.func (.func 181) #[] #[.pointer (some ⟨Bx28 + 1, 0, none⟩), .pointer (some ⟨Bx28, 0, none⟩)])))
          obtain ⟨g1, g2, g3⟩ := N29.out
          obtain ⟨g4, g5, g6⟩ := N26_27_28_29.out
          have gn : ¬ ux28.heap.size = w2.heap.size := by omega
          have gn' : ¬ w2.heap.size = ux28.heap.size := by omega
          clear yx26 yx27 yx28 yx29 vx9 vx10
          clear hHeld29
          go_wp2_with fail
          go_meet
          exact ⟨ux28.heap.size, w2.heap.size, Bx27, Bx28, rfl, rfl, HT8, HF8⟩
        · go_simp
          obtain ⟨ux30, hux30⟩ : ∃ W, ux27.alloc (.cells #[.nilFunc] 33) = W := ⟨_, rfl⟩
          have hv30 := hux30
          have hbx30 : Below ux27.heap.size ux27 ux30 := by rw [← hux30]; exact (Below.refl _ _).alloc (Nat.le_refl _) _
          have N30 := Lib.hid (show Nil9 w2 ux30 ux27.heap.size by rw [← hux30]; exact Nil9.new Tx27.out.2.size)
          have zx30 := Lib.hid (show ux30.heap.size = ux27.heap.size + 1 by rw [← hux30]; exact size_new _ _)
          rw [hv30]
          clear hux30 hv30
          have Tx30 := Lib.hid (And.intro (Tx27.out.1.call hbx30) (Tx27.out.2.trans (hbx30.mono Tx27.out.2.size)))
          have C27_30 := Lib.hid (C27.out.under hbx30)
          have N26_27_30 := Lib.hid (N26_27.out.call hbx30)
          refine hK.out _ _ (KS8.out _ Tx30.out) (fun hHeld30 => ?_)
          clear hK K hHeld27 hbx30
          try simp only [Act.put, List.getElem_toArray, List.getElem_cons_zero, List.getElem_cons_succ, List.setIfInBounds_toArray, List.set_cons_zero, List.set_cons_succ]
          refine wpAnyK_step (i := 5) rfl (by kernel_rfl) (fun K hK => ?_)
          go_simp
          with_reducible refine (pvalues_p a4 n4 cap4 y2 q2 j2 HP.out.k _ Tx30.out.1.r2).mono ?_
          rintro e ux31 ⟨Bx31, rfl, hbx31, hlx31, hmx31, hcx31⟩
          have Tx31 := Lib.hid (And.intro (Tx30.out.1.call hbx31) (Tx30.out.2.trans (hbx31.mono Tx30.out.2.size)))
          have zx31 := Lib.hid (And.intro hbx31.size (And.intro hlx31 hmx31))
          have C31 := Lib.hid hcx31
          clear hlx31 hmx31 hcx31
          have C27_30_31 := Lib.hid (C27_30.out.under hbx31)
          have N30_31 := Lib.hid (N30.out.call hbx31)
          have N26_27_30_31 := Lib.hid (N26_27_30.out.call hbx31)
          refine hK.out _ _ (KS8.out _ Tx31.out) (fun hHeld31 => ?_)
          clear hK K hHeld30 hbx31
          try simp only [Act.put, List.getElem_toArray, List.getElem_cons_zero, List.getElem_cons_succ, List.setIfInBounds_toArray, List.set_cons_zero, List.set_cons_succ]
          refine wpAnyK_done (by kernel_rfl) ?_
          simp only [List.drop_succ_cons, List.drop_zero]
          have yx26 := zx26.out
          have yx27 := zx27.out
          have yx30 := zx30.out
          have yx31 := zx31.out
          have vx9 := N30_31.out.1
          have vx10 := N26_27_30_31.out.1
          have HF8 := Lib.hid (Clo2.end (w := w) C27_30_31.out C31.out (b9 := ux27.heap.size) (b10 := w2.heap.size) (by omega) N30_31.out.2.1 N26_27_30_31.out.2.1 ⟨by omega, by omega, fun x hx hn => by have := r3lt x hx hn; omega⟩ ⟨by omega, by omega, fun x hx hn => by have := r3lt x hx hn; omega⟩ ⟨by omega, by omega, fun x hx hn => by have := r4lt x hx hn; omega⟩ ⟨by omega, by omega, fun x hx hn => by have := r4lt x hx hn; omega⟩)
          have HT8 := Lib.hid (S2.out.call ((Tx31.out.2.setCell (p := ⟨ux27.heap.size, 0, none⟩) (by show w2.heap.size ≤ ux27.heap.size; omega) (.func (.func 181) #[] #[.pointer (some ⟨Bx27 + 1, 0, none⟩), .pointer (some ⟨Bx27, 0, none⟩)])).setCell (p := ⟨w2.heap.size, 0, none⟩) (by show w2.heap.size ≤ w2.heap.size; omega) (.func (.func 181) #[] #[.pointer (some ⟨Bx31 + 1, 0, none⟩), .pointer (some ⟨Bx31, 0, none⟩)])))
          obtain ⟨g1, g2, g3⟩ := N30_31.out
          obtain ⟨g4, g5, g6⟩ := N26_27_30_31.out
          have gn : ¬ ux27.heap.size = w2.heap.size := by omega
          have gn' : ¬ w2.heap.size = ux27.heap.size := by omega
          clear yx26 yx27 yx30 yx31 vx9 vx10
          clear hHeld31
          go_wp2_with fail
          go_meet
          exact ⟨ux27.heap.size, w2.heap.size, Bx27, Bx31, rfl, rfl, HT8, HF8⟩
      · go_simp
        obtain ⟨ux32, hux32⟩ : ∃ W, ux26.alloc (.cells #[.nilFunc] 33) = W := ⟨_, rfl⟩
        have hv32 := hux32
        have hbx32 : Below ux26.heap.size ux26 ux32 := by rw [← hux32]; exact (Below.refl _ _).alloc (Nat.le_refl _) _
        have N32 := Lib.hid (show Nil9 w2 ux32 ux26.heap.size by rw [← hux32]; exact Nil9.new Tx26.out.2.size)
        have zx32 := Lib.hid (show ux32.heap.size = ux26.heap.size + 1 by rw [← hux32]; exact size_new _ _)
        rw [hv32]
        clear hux32 hv32
        have Tx32 := Lib.hid (And.intro (Tx26.out.1.call hbx32) (Tx26.out.2.trans (hbx32.mono Tx26.out.2.size)))
        have N26_32 := Lib.hid (N26.out.call hbx32)
        refine hK.out _ _ (KS8.out _ Tx32.out) (fun hHeld32 => ?_)
        clear hK K hHeld26 hbx32
        try simp only [Act.put, List.getElem_toArray, List.getElem_cons_zero, List.getElem_cons_succ, List.setIfInBounds_toArray, List.set_cons_zero, List.set_cons_succ]
        refine wpAnyK_step (i := 2) rfl (by kernel_rfl) (fun K hK => ?_)
        go_simp
        with_reducible refine (pvalues_p a3 n3 cap3 y1 q1 j1 HP.out.g _ Tx32.out.1.r1).mono ?_
        rintro e ux33 ⟨Bx33, rfl, hbx33, hlx33, hmx33, hcx33⟩
        have Tx33 := Lib.hid (And.intro (Tx32.out.1.call hbx33) (Tx32.out.2.trans (hbx33.mono Tx32.out.2.size)))
        have zx33 := Lib.hid (And.intro hbx33.size (And.intro hlx33 hmx33))
        have C33 := Lib.hid hcx33
        clear hlx33 hmx33 hcx33
        have N32_33 := Lib.hid (N32.out.call hbx33)
        have N26_32_33 := Lib.hid (N26_32.out.call hbx33)
        refine hK.out _ _ (KS8.out _ Tx33.out) (fun hHeld33 => ?_)
        clear hK K hHeld32 hbx33
        try simp only [Act.put, List.getElem_toArray, List.getElem_cons_zero, List.getElem_cons_succ, List.setIfInBounds_toArray, List.set_cons_zero, List.set_cons_succ]
        refine wpAnyK_step (i := 5) rfl (by kernel_rfl) (fun K hK => ?_)
        go_simp
        with_reducible refine (pvalues_p a4 n4 cap4 y2 q2 j2 HP.out.k _ Tx33.out.1.r2).mono ?_
        rintro e ux34 ⟨Bx34, rfl, hbx34, hlx34, hmx34, hcx34⟩
        have Tx34 := Lib.hid (And.intro (Tx33.out.1.call hbx34) (Tx33.out.2.trans (hbx34.mono Tx33.out.2.size)))
        have zx34 := Lib.hid (And.intro hbx34.size (And.intro hlx34 hmx34))
        have C34 := Lib.hid hcx34
        clear hlx34 hmx34 hcx34
        have C33_34 := Lib.hid (C33.out.under hbx34)
        have N32_33_34 := Lib.hid (N32_33.out.call hbx34)
        have N26_32_33_34 := Lib.hid (N26_32_33.out.call hbx34)
        refine hK.out _ _ (KS8.out _ Tx34.out) (fun hHeld34 => ?_)
        clear hK K hHeld33 hbx34
        try simp only [Act.put, List.getElem_toArray, List.getElem_cons_zero, List.getElem_cons_succ, List.setIfInBounds_toArray, List.set_cons_zero, List.set_cons_succ]
        refine wpAnyK_done (by kernel_rfl) ?_
        simp only [List.drop_succ_cons, List.drop_zero]
        have yx26 := zx26.out
        have yx32 := zx32.out
        have yx33 := zx33.out
        have yx34 := zx34.out
        have vx9 := N32_33_34.out.1
        have vx10 := N26_32_33_34.out.1
        have HF8 := Lib.hid (Clo2.end (w := w) C33_34.out C34.out (b9 := ux26.heap.size) (b10 := w2.heap.size) (by omega) N32_33_34.out.2.1 N26_32_33_34.out.2.1 ⟨by omega, by omega, fun x hx hn => by have := r3lt x hx hn; omega⟩ ⟨by omega, by omega, fun x hx hn => by have := r3lt x hx hn; omega⟩ ⟨by omega, by omega, fun x hx hn => by have := r4lt x hx hn; omega⟩ ⟨by omega, by omega, fun x hx hn => by have := r4lt x hx hn; omega⟩)
        have HT8 := Lib.hid (S2.out.call ((Tx34.out.2.setCell (p := ⟨ux26.heap.size, 0, none⟩) (by show w2.heap.size ≤ ux26.heap.size; omega) (.func (.func 181) #[] #[.pointer (some ⟨Bx33 + 1, 0, none⟩), .pointer (some ⟨Bx33, 0, none⟩)])).setCell (p := ⟨w2.heap.size, 0, none⟩) (by show w2.heap.size ≤ w2.heap.size; omega) (.func (.func 181) #[] #[.pointer (some ⟨Bx34 + 1, 0, none⟩), .pointer (some ⟨Bx34, 0, none⟩)])))
        obtain ⟨g1, g2, g3⟩ := N32_33_34.out
        obtain ⟨g4, g5, g6⟩ := N26_32_33_34.out
        have gn : ¬ ux26.heap.size = w2.heap.size := by omega
        have gn' : ¬ w2.heap.size = ux26.heap.size := by omega
        clear yx26 yx32 yx33 yx34 vx9 vx10
        clear hHeld34
        go_wp2_with fail
        go_meet
        exact ⟨ux26.heap.size, w2.heap.size, Bx33, Bx34, rfl, rfl, HT8, HF8⟩
  case rest =>
    obtain ⟨b9, b10, B1, B2, rfl, rfl, S5, HC⟩ := hcut
    obtain ⟨w5, rfl⟩ : ∃ u : World, u = wc := ⟨_, rfl⟩
    clear c0 c1 c2 f0 f1 f2 c3 c4 c5 c6 f3 f4 f5 f6
    have HCD := Lib.hid (show ClosD 129 #[.pointer (some ⟨b9, 0, none⟩), .pointer (some ⟨b10, 0, none⟩)] (max (y1.length - q1) (y2.length - q2) + L) (gapI (fun t => eC y1 q1 j1 (t + 0)) (eC y2 q2 j2)) w5 from fun u hu t ht => by
      have hp := HP.out
      have hfe := hp.g.few
      have hfe2 := hp.k.few
      have hl := hp.l
      have C := HC.out.call hu
      exact backlog1_any b9 b10 B1 B2 a3 n3 cap3 q1 j1 y1 a4 n4 cap4 q2 j2 y2 L hp.g hp.k t (by omega) u ⟨C.v1, C.v2, C.k1, C.k2, Below.refl _ _⟩)
    have EG := Lib.hid (show ∀ (args : Array Value) (w : World), (callFunc 129 args).run Try.prog w = .ok (.enter 129 args) w from enters_of Try.func129 (by kernel_rfl) rfl)
    obtain ⟨⟨c0, c1, c2, f0, f1, f2⟩, c3, c4, c5, c6, f3, f4, f5, f6⟩ := S5.out.pr
    go_wp2_with fail
    refine (greatest_any a3 n3 cap3 y1 q1 j1 a4 n4 cap4 y2 q2 j2 L HP.out 129 #[.pointer (some ⟨b9, 0, none⟩), .pointer (some ⟨b10, 0, none⟩)] (gapI (fun t => eC y1 q1 j1 (t + 0)) (eC y2 q2 j2)) _ rfl (fun t ht => by
      have hp := HP.out
      have hfe := hp.g.few
      have hfe2 := hp.k.few
      have hl := hp.l
      rcases (show gapI (fun t => eC y1 q1 j1 (t + 0)) (eC y2 q2 j2) t = infV ∨ _ from gapI_bd hp.g hp.k (s := t + 0) (t := t) (by omega) (by omega)) with h | h
      · rw [h]; unfold infV; omega
      · have h1 := h.1; have h2 := h.2; constructor
        · show -9223372036854775808 ≤ gapI (fun _ => eC y1 q1 j1 (t + 0)) (eC y2 q2 j2) t; omega
        · show gapI (fun _ => eC y1 q1 j1 (t + 0)) (eC y2 q2 j2) t ≤ _; omega) _ S5.out.r1 S5.out.r2 EG.out HCD.out).mono ?_
    rintro e u7 ⟨i, m, k, rfl, hb, hG⟩
    have S6 := Lib.hid (S5.out.call hb)
    have HG := Lib.hid hG
    clear c0 c1 c2 f0 f1 f2 c3 c4 c5 c6 f3 f4 f5 f6 hb hG
    obtain ⟨c0, c1, c2, f0, f1, f2⟩ := S6.out.res
    have HF := Lib.hid (show GivesDev (DevB (fun t => eC z1 p1 i1 (t + 0)) (eC z2 p2 i2)) w (.returned (.tuple #[.agg #[.bool i, .int .i64 m, .int .i64 k], .int .i64 0])) (((u7.setCell ⟨w.heap.size + 2, 0, none⟩ (.bool i)).setCell ⟨w.heap.size + 2, 1, none⟩ (.int .i64 m)).setCell ⟨w.heap.size + 2, 2, none⟩ (.int .i64 k)) from ⟨i, m, k, rfl, below_set3 S6.out.below (by omega) _ _ _, by
      have hp := HP.out
      have hfe := hp.g.few
      have hfe2 := hp.k.few
      have hl := hp.l
      rw [← HE.out.1, ← HE.out.2]
      exact great_gap (d := 0) hp.g hp.k (by omega) hp.m hl (Nat.le_refl _) (by omega) HG.out⟩)
    go_wp2_with fail
    exact bodyPost_ret (v := .tuple #[.agg #[.bool i, .int .i64 m, .int .i64 k], .int .i64 0]) (by simp [results, Try.results58, go_sem, c0, c1, c2]) rfl HF.out

set_option maxRecDepth 100000 in
set_option maxHeartbeats 6400000 in
theorem peak_ok (a1 : Option Addr) (n1 cap1 : Nat) (z1 : List Int) (p1 : Nat) (i1 : Int) (g1 : Good z1 p1 i1) (a2 : Option Addr) (n2 cap2 : Nat) (z2 : List Int) (p2 : Nat) (i2 : Int) (g2 : Good z2 p2 i2)
    {y1 y2 : List Int} {q1 q2 : Nat} {j1 j2 : Int} (hn1 : NormC z1 p1 i1 y1 q1 j1) (hn2 : NormC z2 p2 i2 y2 q2 j2) (L : Nat) (hL : q1 / Nat.gcd q1 q2 * q2 = L) (hL2 : L ≤ 120) (w : World) (h1 : RowZ w a1 n1 cap1 z1) (h2 : RowZ w a2 n2 cap2 z2) :
    Calls Try.prog 60 #[curV a1 n1 cap1 p1 i1, curV a2 n2 cap2 p2 i2] w (GivesDev (DevB (fun t => eC z1 p1 i1 (t + 1)) (eC z2 p2 i2)) w) := by
  have hmf : ∀ (fn : Fn) (first cap : Array Value) (w : World), (Instr.makeFunc fn first cap).run Try.prog w = .ok (.func fn first cap) w := fun _ _ _ _ => rfl
  obtain ⟨W, hW⟩ : ∃ W, ((w.alloc (.cells #[.slice a1 n1 cap1, .int .i64 p1, .int .i64 i1] 24)).alloc (.cells #[.slice a2 n2 cap2, .int .i64 p2, .int .i64 i2] 24)).alloc (.cells #[.bool false, .int .i64 0, .int .i64 0] 74) = W := ⟨_, rfl⟩
  obtain ⟨t0, hsz⟩ := sv_start (p1 := p1) (i1 := i1) (p2 := p2) (i2 := i2) h1 h2 hW
  have T0 := Lib.hid t0
  have HSZ := Lib.hid hsz
  have HW := Lib.hid hW
  have HP := Lib.hid (pairP_of g1 g2 hn1 hn2 hL hL2)
  have HE := Lib.hid (And.intro (norm_E hn1 g1) (norm_E hn2 g2))
  have G1 := Lib.hid g1
  have G2 := Lib.hid g2
  have HN := Lib.hid (And.intro hn1 hn2)
  have HL := Lib.hid (And.intro hL hL2)
  clear t0 hsz hW g1 g2 hn1 hn2 hL hL2 h1 h2
  obtain ⟨c0, c1, c2, f0, f1, f2⟩ := T0.out.c1
  obtain ⟨d0, d1, d2, e0, e1, e2⟩ := T0.out.c2
  go_enter Try.func60, Try.ntmps60
  go_upto_region 1 with fail
  try rw [HW.out]
  go_wp2_with fail
  refine (vpaired_ok a1 n1 cap1 z1 p1 i1 G1.out a2 n2 cap2 z2 p2 i2 G2.out HN.out.1 HN.out.2 L HL.out.1 HL.out.2 _ T0.out.r1 T0.out.r2).mono ?_
  rintro e w1 ⟨a3, n3, cap3, a4, n4, cap4, rfl, hb, hr1, hr2⟩
  obtain ⟨w2, hw2⟩ : ∃ W', w1.alloc (.cells #[.slice a3 n3 cap3, .int .i64 q1, .int .i64 j1, .slice a4 n4 cap4, .int .i64 q2, .int .i64 j2, .int .i64 L] 130) = W' := ⟨_, rfl⟩
  have hz : Below w1.heap.size w1 w2 := by rw [← hw2]; exact (Below.refl _ _).alloc (Nat.le_refl _) _
  have S2 := Lib.hid (show SPv w w1.heap.size a3 n3 cap3 q1 j1 y1 a4 n4 cap4 q2 j2 y2 L w2 from ⟨(T0.out.res.below hb).below hz, by rw [← hw2]; exact p7_new w1 _ _ _ _ _ _ _ _, hr1.under hz, hr2.under hz, (T0.out.below.trans (hb.mono T0.out.below.size)).trans (hz.mono (Nat.le_trans T0.out.below.size hb.size))⟩)
  have HSB := Lib.hid (show w.heap.size + 3 ≤ w1.heap.size from Nat.le_trans (Nat.le_of_eq HSZ.out.symm) hb.size)
  have HW2 := Lib.hid hw2
  clear hb hr1 hr2 hw2 hz c0 c1 c2 f0 f1 f2 d0 d1 d2 e0 e1 e2
  go_upto_region 4 with fail
  try rw [HW2.out]
  obtain ⟨PB, hPB⟩ : ∃ PB, w1.heap.size = PB := ⟨_, rfl⟩
  rw [hPB] at S2 HSB
  try rw [hPB]
  clear hPB HW2
  obtain ⟨⟨c0, c1, c2, f0, f1, f2⟩, c3, c4, c5, c6, f3, f4, f5, f6⟩ := S2.out.pr
  go_cut [8, 9] (fun s8 s9 wx => ∃ b9 b10 B1 B2 : Nat, s8 = .pointer (some ⟨b9, 0, none⟩) ∧ s9 = .pointer (some ⟨b10, 0, none⟩) ∧ Hid (SPv w PB a3 n3 cap3 q1 j1 y1 a4 n4 cap4 q2 j2 y2 L wx) ∧ Hid (Clo2 w b9 b10 B1 B2 (atC y1 q1 j1) (atC y2 q2 j2) wx))
  case first =>
    have r3lt := S2.out.r1.far
    have r4lt := S2.out.r2.far
    have KS8 := Lib.hid (show ∀ u, SPv w PB a3 n3 cap3 q1 j1 y1 a4 n4 cap4 q2 j2 y2 L u ∧ Below w2.heap.size w2 u → (fun u => (u.cell? ⟨PB, 0, none⟩ = some (.slice a3 n3 cap3) ∧ u.cell? ⟨PB, 1, none⟩ = some (.int .i64 q1) ∧ u.cell? ⟨PB, 2, none⟩ = some (.int .i64 j1) ∧ u.cell? ⟨PB, 3, none⟩ = some (.slice a4 n4 cap4) ∧ u.cell? ⟨PB, 4, none⟩ = some (.int .i64 q2) ∧ u.cell? ⟨PB, 5, none⟩ = some (.int .i64 j2)) ∧ Hid (SPv w PB a3 n3 cap3 q1 j1 y1 a4 n4 cap4 q2 j2 y2 L u ∧ Below w2.heap.size w2 u)) u from fun u hu => ⟨⟨hu.1.pr.lo.c0, hu.1.pr.lo.c1, hu.1.pr.lo.c2, hu.1.pr.c3, hu.1.pr.c4, hu.1.pr.c5⟩, hu⟩)
    have T0' := Lib.hid (And.intro (S2.out.call (Below.drew (Below.refl _ _))) (Below.drew (Below.refl w2.heap.size w2)))
    clear c0 c1 c2 f0 f1 f2 c3 c4 c5 c6 f3 f4 f5 f6
    refine wp_region_keeps (fun u => (u.cell? ⟨PB, 0, none⟩ = some (.slice a3 n3 cap3) ∧ u.cell? ⟨PB, 1, none⟩ = some (.int .i64 q1) ∧ u.cell? ⟨PB, 2, none⟩ = some (.int .i64 j1) ∧ u.cell? ⟨PB, 3, none⟩ = some (.slice a4 n4 cap4) ∧ u.cell? ⟨PB, 4, none⟩ = some (.int .i64 q2) ∧ u.cell? ⟨PB, 5, none⟩ = some (.int .i64 j2)) ∧ Hid (SPv w PB a3 n3 cap3 q1 j1 y1 a4 n4 cap4 q2 j2 y2 L u ∧ Below w2.heap.size w2 u)) 8 2 (by kernel_rfl) (by kernel_rfl) (KS8.out _ T0'.out) (fun hHeld0 => ?_)
    refine wpAnyK_take (i := 0) (v := ?_) rfl (by kernel_rfl) (fun _ _ _ h => h) (Or.inl ⟨by rfl, ?_⟩) (by assumption) ?_
    rotate_left
    · (intro w hSw; (try dsimp only at hSw); go_simp; try with_reducible rfl)
    try simp only [Act.put, List.getElem_toArray, List.getElem_cons_zero, List.getElem_cons_succ, List.setIfInBounds_toArray, List.set_cons_zero, List.set_cons_succ]
    refine wpAnyK_take (i := 1) (v := ?_) rfl (by kernel_rfl) (fun _ _ _ h => h) (Or.inl ⟨by rfl, ?_⟩) (by assumption) ?_
    rotate_left
    · (intro w hSw; (try dsimp only at hSw); go_simp; try with_reducible rfl)
    try simp only [Act.put, List.getElem_toArray, List.getElem_cons_zero, List.getElem_cons_succ, List.setIfInBounds_toArray, List.set_cons_zero, List.set_cons_succ]
    refine wpAnyK_take (i := 3) (v := ?_) rfl (by kernel_rfl) (fun _ _ _ h => h) (Or.inl ⟨by rfl, ?_⟩) (by assumption) ?_
    rotate_left
    · (intro w hSw; (try dsimp only at hSw); go_simp; try with_reducible rfl)
    try simp only [Act.put, List.getElem_toArray, List.getElem_cons_zero, List.getElem_cons_succ, List.setIfInBounds_toArray, List.set_cons_zero, List.set_cons_succ]
    refine wpAnyK_take (i := 4) (v := ?_) rfl (by kernel_rfl) (fun _ _ _ h => h) (Or.inl ⟨by rfl, ?_⟩) (by assumption) ?_
    rotate_left
    · (intro w hSw; (try dsimp only at hSw); go_simp; try with_reducible rfl)
    try simp only [Act.put, List.getElem_toArray, List.getElem_cons_zero, List.getElem_cons_succ, List.setIfInBounds_toArray, List.set_cons_zero, List.set_cons_succ]
    refine wpAnyK_three (i := 2) (j := 6) (k := 7) rfl rfl rfl (by kernel_rfl) (fun K hK => ?_) (fun K hK => ?_) (fun K hK => ?_)
    · go_simp
      with_reducible refine (pvalues_p a3 n3 cap3 y1 q1 j1 HP.out.g _ T0'.out.1.r1).mono ?_
      rintro e ux1 ⟨Bx1, rfl, hbx1, hlx1, hmx1, hcx1⟩
      have Tx1 := Lib.hid (And.intro (T0'.out.1.call hbx1) (T0'.out.2.trans (hbx1.mono T0'.out.2.size)))
      have zx1 := Lib.hid (And.intro hbx1.size (And.intro hlx1 hmx1))
      have C1 := Lib.hid hcx1
      clear hlx1 hmx1 hcx1
      refine hK.out _ _ (KS8.out _ Tx1.out) (fun hHeld1 => ?_)
      clear hK K hHeld0 hbx1
      try simp only [Act.put, List.getElem_toArray, List.getElem_cons_zero, List.getElem_cons_succ, List.setIfInBounds_toArray, List.set_cons_zero, List.set_cons_succ]
      refine wpAnyK_three (i := 5) (j := 6) (k := 7) rfl rfl rfl (by kernel_rfl) (fun K hK => ?_) (fun K hK => ?_) (fun K hK => ?_)
      · go_simp
        with_reducible refine (pvalues_p a4 n4 cap4 y2 q2 j2 HP.out.k _ Tx1.out.1.r2).mono ?_
        rintro e ux2 ⟨Bx2, rfl, hbx2, hlx2, hmx2, hcx2⟩
        have Tx2 := Lib.hid (And.intro (Tx1.out.1.call hbx2) (Tx1.out.2.trans (hbx2.mono Tx1.out.2.size)))
        have zx2 := Lib.hid (And.intro hbx2.size (And.intro hlx2 hmx2))
        have C2 := Lib.hid hcx2
        clear hlx2 hmx2 hcx2
        have C1_2 := Lib.hid (C1.out.under hbx2)
        refine hK.out _ _ (KS8.out _ Tx2.out) (fun hHeld2 => ?_)
        clear hK K hHeld1 hbx2
        try simp only [Act.put, List.getElem_toArray, List.getElem_cons_zero, List.getElem_cons_succ, List.setIfInBounds_toArray, List.set_cons_zero, List.set_cons_succ]
        refine wpAnyK_two (i := 6) (j := 7) rfl rfl (by kernel_rfl) (fun K hK => ?_) (fun K hK => ?_)
        · go_simp
          obtain ⟨ux3, hux3⟩ : ∃ W, ux2.alloc (.cells #[.nilFunc] 33) = W := ⟨_, rfl⟩
          have hv3 := hux3
          have hbx3 : Below ux2.heap.size ux2 ux3 := by rw [← hux3]; exact (Below.refl _ _).alloc (Nat.le_refl _) _
          have N3 := Lib.hid (show Nil9 w2 ux3 ux2.heap.size by rw [← hux3]; exact Nil9.new Tx2.out.2.size)
          have zx3 := Lib.hid (show ux3.heap.size = ux2.heap.size + 1 by rw [← hux3]; exact size_new _ _)
          rw [hv3]
          clear hux3 hv3
          have Tx3 := Lib.hid (And.intro (Tx2.out.1.call hbx3) (Tx2.out.2.trans (hbx3.mono Tx2.out.2.size)))
          have C1_2_3 := Lib.hid (C1_2.out.under hbx3)
          have C2_3 := Lib.hid (C2.out.under hbx3)
          refine hK.out _ _ (KS8.out _ Tx3.out) (fun hHeld3 => ?_)
          clear hK K hHeld2 hbx3
          try simp only [Act.put, List.getElem_toArray, List.getElem_cons_zero, List.getElem_cons_succ, List.setIfInBounds_toArray, List.set_cons_zero, List.set_cons_succ]
          refine wpAnyK_step (i := 7) rfl (by kernel_rfl) (fun K hK => ?_)
          go_simp
          obtain ⟨ux4, hux4⟩ : ∃ W, ux3.alloc (.cells #[.nilFunc] 33) = W := ⟨_, rfl⟩
          have hv4 := hux4
          have hbx4 : Below ux3.heap.size ux3 ux4 := by rw [← hux4]; exact (Below.refl _ _).alloc (Nat.le_refl _) _
          have N4 := Lib.hid (show Nil9 w2 ux4 ux3.heap.size by rw [← hux4]; exact Nil9.new Tx3.out.2.size)
          have zx4 := Lib.hid (show ux4.heap.size = ux3.heap.size + 1 by rw [← hux4]; exact size_new _ _)
          rw [hv4]
          clear hux4 hv4
          have Tx4 := Lib.hid (And.intro (Tx3.out.1.call hbx4) (Tx3.out.2.trans (hbx4.mono Tx3.out.2.size)))
          have C1_2_3_4 := Lib.hid (C1_2_3.out.under hbx4)
          have C2_3_4 := Lib.hid (C2_3.out.under hbx4)
          have N3_4 := Lib.hid (N3.out.call hbx4)
          refine hK.out _ _ (KS8.out _ Tx4.out) (fun hHeld4 => ?_)
          clear hK K hHeld3 hbx4
          try simp only [Act.put, List.getElem_toArray, List.getElem_cons_zero, List.getElem_cons_succ, List.setIfInBounds_toArray, List.set_cons_zero, List.set_cons_succ]
          refine wpAnyK_done (by kernel_rfl) ?_
          simp only [List.drop_succ_cons, List.drop_zero]
          have yx1 := zx1.out
          have yx2 := zx2.out
          have yx3 := zx3.out
          have yx4 := zx4.out
          have vx9 := N3_4.out.1
          have vx10 := N4.out.1
          have HF8 := Lib.hid (Clo2.end (w := w) C1_2_3_4.out C2_3_4.out (b9 := ux2.heap.size) (b10 := ux3.heap.size) (by omega) N3_4.out.2.1 N4.out.2.1 ⟨by omega, by omega, fun x hx hn => by have := r3lt x hx hn; omega⟩ ⟨by omega, by omega, fun x hx hn => by have := r3lt x hx hn; omega⟩ ⟨by omega, by omega, fun x hx hn => by have := r4lt x hx hn; omega⟩ ⟨by omega, by omega, fun x hx hn => by have := r4lt x hx hn; omega⟩)
          have HT8 := Lib.hid (S2.out.call ((Tx4.out.2.setCell (p := ⟨ux2.heap.size, 0, none⟩) (by show w2.heap.size ≤ ux2.heap.size; omega) (.func (.func 181) #[] #[.pointer (some ⟨Bx1 + 1, 0, none⟩), .pointer (some ⟨Bx1, 0, none⟩)])).setCell (p := ⟨ux3.heap.size, 0, none⟩) (by show w2.heap.size ≤ ux3.heap.size; omega) (.func (.func 181) #[] #[.pointer (some ⟨Bx2 + 1, 0, none⟩), .pointer (some ⟨Bx2, 0, none⟩)])))
          obtain ⟨g1, g2, g3⟩ := N3_4.out
          obtain ⟨g4, g5, g6⟩ := N4.out
          have gn : ¬ ux2.heap.size = ux3.heap.size := by omega
          have gn' : ¬ ux3.heap.size = ux2.heap.size := by omega
          clear yx1 yx2 yx3 yx4 vx9 vx10
          clear hHeld4
          go_wp2_with fail
          go_meet
          exact ⟨ux2.heap.size, ux3.heap.size, Bx1, Bx2, rfl, rfl, HT8, HF8⟩
        · go_simp
          obtain ⟨ux5, hux5⟩ : ∃ W, ux2.alloc (.cells #[.nilFunc] 33) = W := ⟨_, rfl⟩
          have hv5 := hux5
          have hbx5 : Below ux2.heap.size ux2 ux5 := by rw [← hux5]; exact (Below.refl _ _).alloc (Nat.le_refl _) _
          have N5 := Lib.hid (show Nil9 w2 ux5 ux2.heap.size by rw [← hux5]; exact Nil9.new Tx2.out.2.size)
          have zx5 := Lib.hid (show ux5.heap.size = ux2.heap.size + 1 by rw [← hux5]; exact size_new _ _)
          rw [hv5]
          clear hux5 hv5
          have Tx5 := Lib.hid (And.intro (Tx2.out.1.call hbx5) (Tx2.out.2.trans (hbx5.mono Tx2.out.2.size)))
          have C1_2_5 := Lib.hid (C1_2.out.under hbx5)
          have C2_5 := Lib.hid (C2.out.under hbx5)
          refine hK.out _ _ (KS8.out _ Tx5.out) (fun hHeld5 => ?_)
          clear hK K hHeld2 hbx5
          try simp only [Act.put, List.getElem_toArray, List.getElem_cons_zero, List.getElem_cons_succ, List.setIfInBounds_toArray, List.set_cons_zero, List.set_cons_succ]
          refine wpAnyK_step (i := 6) rfl (by kernel_rfl) (fun K hK => ?_)
          go_simp
          obtain ⟨ux6, hux6⟩ : ∃ W, ux5.alloc (.cells #[.nilFunc] 33) = W := ⟨_, rfl⟩
          have hv6 := hux6
          have hbx6 : Below ux5.heap.size ux5 ux6 := by rw [← hux6]; exact (Below.refl _ _).alloc (Nat.le_refl _) _
          have N6 := Lib.hid (show Nil9 w2 ux6 ux5.heap.size by rw [← hux6]; exact Nil9.new Tx5.out.2.size)
          have zx6 := Lib.hid (show ux6.heap.size = ux5.heap.size + 1 by rw [← hux6]; exact size_new _ _)
          rw [hv6]
          clear hux6 hv6
          have Tx6 := Lib.hid (And.intro (Tx5.out.1.call hbx6) (Tx5.out.2.trans (hbx6.mono Tx5.out.2.size)))
          have C1_2_5_6 := Lib.hid (C1_2_5.out.under hbx6)
          have C2_5_6 := Lib.hid (C2_5.out.under hbx6)
          have N5_6 := Lib.hid (N5.out.call hbx6)
          refine hK.out _ _ (KS8.out _ Tx6.out) (fun hHeld6 => ?_)
          clear hK K hHeld5 hbx6
          try simp only [Act.put, List.getElem_toArray, List.getElem_cons_zero, List.getElem_cons_succ, List.setIfInBounds_toArray, List.set_cons_zero, List.set_cons_succ]
          refine wpAnyK_done (by kernel_rfl) ?_
          simp only [List.drop_succ_cons, List.drop_zero]
          have yx1 := zx1.out
          have yx2 := zx2.out
          have yx5 := zx5.out
          have yx6 := zx6.out
          have vx9 := N6.out.1
          have vx10 := N5_6.out.1
          have HF8 := Lib.hid (Clo2.end (w := w) C1_2_5_6.out C2_5_6.out (b9 := ux5.heap.size) (b10 := ux2.heap.size) (by omega) N6.out.2.1 N5_6.out.2.1 ⟨by omega, by omega, fun x hx hn => by have := r3lt x hx hn; omega⟩ ⟨by omega, by omega, fun x hx hn => by have := r3lt x hx hn; omega⟩ ⟨by omega, by omega, fun x hx hn => by have := r4lt x hx hn; omega⟩ ⟨by omega, by omega, fun x hx hn => by have := r4lt x hx hn; omega⟩)
          have HT8 := Lib.hid (S2.out.call ((Tx6.out.2.setCell (p := ⟨ux5.heap.size, 0, none⟩) (by show w2.heap.size ≤ ux5.heap.size; omega) (.func (.func 181) #[] #[.pointer (some ⟨Bx1 + 1, 0, none⟩), .pointer (some ⟨Bx1, 0, none⟩)])).setCell (p := ⟨ux2.heap.size, 0, none⟩) (by show w2.heap.size ≤ ux2.heap.size; omega) (.func (.func 181) #[] #[.pointer (some ⟨Bx2 + 1, 0, none⟩), .pointer (some ⟨Bx2, 0, none⟩)])))
          obtain ⟨g1, g2, g3⟩ := N6.out
          obtain ⟨g4, g5, g6⟩ := N5_6.out
          have gn : ¬ ux5.heap.size = ux2.heap.size := by omega
          have gn' : ¬ ux2.heap.size = ux5.heap.size := by omega
          clear yx1 yx2 yx5 yx6 vx9 vx10
          clear hHeld6
          go_wp2_with fail
          go_meet
          exact ⟨ux5.heap.size, ux2.heap.size, Bx1, Bx2, rfl, rfl, HT8, HF8⟩
      · go_simp
        obtain ⟨ux7, hux7⟩ : ∃ W, ux1.alloc (.cells #[.nilFunc] 33) = W := ⟨_, rfl⟩
        have hv7 := hux7
        have hbx7 : Below ux1.heap.size ux1 ux7 := by rw [← hux7]; exact (Below.refl _ _).alloc (Nat.le_refl _) _
        have N7 := Lib.hid (show Nil9 w2 ux7 ux1.heap.size by rw [← hux7]; exact Nil9.new Tx1.out.2.size)
        have zx7 := Lib.hid (show ux7.heap.size = ux1.heap.size + 1 by rw [← hux7]; exact size_new _ _)
        rw [hv7]
        clear hux7 hv7
        have Tx7 := Lib.hid (And.intro (Tx1.out.1.call hbx7) (Tx1.out.2.trans (hbx7.mono Tx1.out.2.size)))
        have C1_7 := Lib.hid (C1.out.under hbx7)
        refine hK.out _ _ (KS8.out _ Tx7.out) (fun hHeld7 => ?_)
        clear hK K hHeld1 hbx7
        try simp only [Act.put, List.getElem_toArray, List.getElem_cons_zero, List.getElem_cons_succ, List.setIfInBounds_toArray, List.set_cons_zero, List.set_cons_succ]
        refine wpAnyK_two (i := 5) (j := 7) rfl rfl (by kernel_rfl) (fun K hK => ?_) (fun K hK => ?_)
        · go_simp
          with_reducible refine (pvalues_p a4 n4 cap4 y2 q2 j2 HP.out.k _ Tx7.out.1.r2).mono ?_
          rintro e ux8 ⟨Bx8, rfl, hbx8, hlx8, hmx8, hcx8⟩
          have Tx8 := Lib.hid (And.intro (Tx7.out.1.call hbx8) (Tx7.out.2.trans (hbx8.mono Tx7.out.2.size)))
          have zx8 := Lib.hid (And.intro hbx8.size (And.intro hlx8 hmx8))
          have C8 := Lib.hid hcx8
          clear hlx8 hmx8 hcx8
          have C1_7_8 := Lib.hid (C1_7.out.under hbx8)
          have N7_8 := Lib.hid (N7.out.call hbx8)
          refine hK.out _ _ (KS8.out _ Tx8.out) (fun hHeld8 => ?_)
          clear hK K hHeld7 hbx8
          try simp only [Act.put, List.getElem_toArray, List.getElem_cons_zero, List.getElem_cons_succ, List.setIfInBounds_toArray, List.set_cons_zero, List.set_cons_succ]
          refine wpAnyK_step (i := 7) rfl (by kernel_rfl) (fun K hK => ?_)
          go_simp
          obtain ⟨ux9, hux9⟩ : ∃ W, ux8.alloc (.cells #[.nilFunc] 33) = W := ⟨_, rfl⟩
          have hv9 := hux9
          have hbx9 : Below ux8.heap.size ux8 ux9 := by rw [← hux9]; exact (Below.refl _ _).alloc (Nat.le_refl _) _
          have N9 := Lib.hid (show Nil9 w2 ux9 ux8.heap.size by rw [← hux9]; exact Nil9.new Tx8.out.2.size)
          have zx9 := Lib.hid (show ux9.heap.size = ux8.heap.size + 1 by rw [← hux9]; exact size_new _ _)
          rw [hv9]
          clear hux9 hv9
          have Tx9 := Lib.hid (And.intro (Tx8.out.1.call hbx9) (Tx8.out.2.trans (hbx9.mono Tx8.out.2.size)))
          have C1_7_8_9 := Lib.hid (C1_7_8.out.under hbx9)
          have C8_9 := Lib.hid (C8.out.under hbx9)
          have N7_8_9 := Lib.hid (N7_8.out.call hbx9)
          refine hK.out _ _ (KS8.out _ Tx9.out) (fun hHeld9 => ?_)
          clear hK K hHeld8 hbx9
          try simp only [Act.put, List.getElem_toArray, List.getElem_cons_zero, List.getElem_cons_succ, List.setIfInBounds_toArray, List.set_cons_zero, List.set_cons_succ]
          refine wpAnyK_done (by kernel_rfl) ?_
          simp only [List.drop_succ_cons, List.drop_zero]
          have yx1 := zx1.out
          have yx7 := zx7.out
          have yx8 := zx8.out
          have yx9 := zx9.out
          have vx9 := N7_8_9.out.1
          have vx10 := N9.out.1
          have HF8 := Lib.hid (Clo2.end (w := w) C1_7_8_9.out C8_9.out (b9 := ux1.heap.size) (b10 := ux8.heap.size) (by omega) N7_8_9.out.2.1 N9.out.2.1 ⟨by omega, by omega, fun x hx hn => by have := r3lt x hx hn; omega⟩ ⟨by omega, by omega, fun x hx hn => by have := r3lt x hx hn; omega⟩ ⟨by omega, by omega, fun x hx hn => by have := r4lt x hx hn; omega⟩ ⟨by omega, by omega, fun x hx hn => by have := r4lt x hx hn; omega⟩)
          have HT8 := Lib.hid (S2.out.call ((Tx9.out.2.setCell (p := ⟨ux1.heap.size, 0, none⟩) (by show w2.heap.size ≤ ux1.heap.size; omega) (.func (.func 181) #[] #[.pointer (some ⟨Bx1 + 1, 0, none⟩), .pointer (some ⟨Bx1, 0, none⟩)])).setCell (p := ⟨ux8.heap.size, 0, none⟩) (by show w2.heap.size ≤ ux8.heap.size; omega) (.func (.func 181) #[] #[.pointer (some ⟨Bx8 + 1, 0, none⟩), .pointer (some ⟨Bx8, 0, none⟩)])))
          obtain ⟨g1, g2, g3⟩ := N7_8_9.out
          obtain ⟨g4, g5, g6⟩ := N9.out
          have gn : ¬ ux1.heap.size = ux8.heap.size := by omega
          have gn' : ¬ ux8.heap.size = ux1.heap.size := by omega
          clear yx1 yx7 yx8 yx9 vx9 vx10
          clear hHeld9
          go_wp2_with fail
          go_meet
          exact ⟨ux1.heap.size, ux8.heap.size, Bx1, Bx8, rfl, rfl, HT8, HF8⟩
        · go_simp
          obtain ⟨ux10, hux10⟩ : ∃ W, ux7.alloc (.cells #[.nilFunc] 33) = W := ⟨_, rfl⟩
          have hv10 := hux10
          have hbx10 : Below ux7.heap.size ux7 ux10 := by rw [← hux10]; exact (Below.refl _ _).alloc (Nat.le_refl _) _
          have N10 := Lib.hid (show Nil9 w2 ux10 ux7.heap.size by rw [← hux10]; exact Nil9.new Tx7.out.2.size)
          have zx10 := Lib.hid (show ux10.heap.size = ux7.heap.size + 1 by rw [← hux10]; exact size_new _ _)
          rw [hv10]
          clear hux10 hv10
          have Tx10 := Lib.hid (And.intro (Tx7.out.1.call hbx10) (Tx7.out.2.trans (hbx10.mono Tx7.out.2.size)))
          have C1_7_10 := Lib.hid (C1_7.out.under hbx10)
          have N7_10 := Lib.hid (N7.out.call hbx10)
          refine hK.out _ _ (KS8.out _ Tx10.out) (fun hHeld10 => ?_)
          clear hK K hHeld7 hbx10
          try simp only [Act.put, List.getElem_toArray, List.getElem_cons_zero, List.getElem_cons_succ, List.setIfInBounds_toArray, List.set_cons_zero, List.set_cons_succ]
          refine wpAnyK_step (i := 5) rfl (by kernel_rfl) (fun K hK => ?_)
          go_simp
          with_reducible refine (pvalues_p a4 n4 cap4 y2 q2 j2 HP.out.k _ Tx10.out.1.r2).mono ?_
          rintro e ux11 ⟨Bx11, rfl, hbx11, hlx11, hmx11, hcx11⟩
          have Tx11 := Lib.hid (And.intro (Tx10.out.1.call hbx11) (Tx10.out.2.trans (hbx11.mono Tx10.out.2.size)))
          have zx11 := Lib.hid (And.intro hbx11.size (And.intro hlx11 hmx11))
          have C11 := Lib.hid hcx11
          clear hlx11 hmx11 hcx11
          have C1_7_10_11 := Lib.hid (C1_7_10.out.under hbx11)
          have N7_10_11 := Lib.hid (N7_10.out.call hbx11)
          have N10_11 := Lib.hid (N10.out.call hbx11)
          refine hK.out _ _ (KS8.out _ Tx11.out) (fun hHeld11 => ?_)
          clear hK K hHeld10 hbx11
          try simp only [Act.put, List.getElem_toArray, List.getElem_cons_zero, List.getElem_cons_succ, List.setIfInBounds_toArray, List.set_cons_zero, List.set_cons_succ]
          refine wpAnyK_done (by kernel_rfl) ?_
          simp only [List.drop_succ_cons, List.drop_zero]
          have yx1 := zx1.out
          have yx7 := zx7.out
          have yx10 := zx10.out
          have yx11 := zx11.out
          have vx9 := N7_10_11.out.1
          have vx10 := N10_11.out.1
          have HF8 := Lib.hid (Clo2.end (w := w) C1_7_10_11.out C11.out (b9 := ux1.heap.size) (b10 := ux7.heap.size) (by omega) N7_10_11.out.2.1 N10_11.out.2.1 ⟨by omega, by omega, fun x hx hn => by have := r3lt x hx hn; omega⟩ ⟨by omega, by omega, fun x hx hn => by have := r3lt x hx hn; omega⟩ ⟨by omega, by omega, fun x hx hn => by have := r4lt x hx hn; omega⟩ ⟨by omega, by omega, fun x hx hn => by have := r4lt x hx hn; omega⟩)
          have HT8 := Lib.hid (S2.out.call ((Tx11.out.2.setCell (p := ⟨ux1.heap.size, 0, none⟩) (by show w2.heap.size ≤ ux1.heap.size; omega) (.func (.func 181) #[] #[.pointer (some ⟨Bx1 + 1, 0, none⟩), .pointer (some ⟨Bx1, 0, none⟩)])).setCell (p := ⟨ux7.heap.size, 0, none⟩) (by show w2.heap.size ≤ ux7.heap.size; omega) (.func (.func 181) #[] #[.pointer (some ⟨Bx11 + 1, 0, none⟩), .pointer (some ⟨Bx11, 0, none⟩)])))
          obtain ⟨g1, g2, g3⟩ := N7_10_11.out
          obtain ⟨g4, g5, g6⟩ := N10_11.out
          have gn : ¬ ux1.heap.size = ux7.heap.size := by omega
          have gn' : ¬ ux7.heap.size = ux1.heap.size := by omega
          clear yx1 yx7 yx10 yx11 vx9 vx10
          clear hHeld11
          go_wp2_with fail
          go_meet
          exact ⟨ux1.heap.size, ux7.heap.size, Bx1, Bx11, rfl, rfl, HT8, HF8⟩
      · go_simp
        obtain ⟨ux12, hux12⟩ : ∃ W, ux1.alloc (.cells #[.nilFunc] 33) = W := ⟨_, rfl⟩
        have hv12 := hux12
        have hbx12 : Below ux1.heap.size ux1 ux12 := by rw [← hux12]; exact (Below.refl _ _).alloc (Nat.le_refl _) _
        have N12 := Lib.hid (show Nil9 w2 ux12 ux1.heap.size by rw [← hux12]; exact Nil9.new Tx1.out.2.size)
        have zx12 := Lib.hid (show ux12.heap.size = ux1.heap.size + 1 by rw [← hux12]; exact size_new _ _)
        rw [hv12]
        clear hux12 hv12
        have Tx12 := Lib.hid (And.intro (Tx1.out.1.call hbx12) (Tx1.out.2.trans (hbx12.mono Tx1.out.2.size)))
        have C1_12 := Lib.hid (C1.out.under hbx12)
        refine hK.out _ _ (KS8.out _ Tx12.out) (fun hHeld12 => ?_)
        clear hK K hHeld1 hbx12
        try simp only [Act.put, List.getElem_toArray, List.getElem_cons_zero, List.getElem_cons_succ, List.setIfInBounds_toArray, List.set_cons_zero, List.set_cons_succ]
        refine wpAnyK_two (i := 5) (j := 6) rfl rfl (by kernel_rfl) (fun K hK => ?_) (fun K hK => ?_)
        · go_simp
          with_reducible refine (pvalues_p a4 n4 cap4 y2 q2 j2 HP.out.k _ Tx12.out.1.r2).mono ?_
          rintro e ux13 ⟨Bx13, rfl, hbx13, hlx13, hmx13, hcx13⟩
          have Tx13 := Lib.hid (And.intro (Tx12.out.1.call hbx13) (Tx12.out.2.trans (hbx13.mono Tx12.out.2.size)))
          have zx13 := Lib.hid (And.intro hbx13.size (And.intro hlx13 hmx13))
          have C13 := Lib.hid hcx13
          clear hlx13 hmx13 hcx13
          have C1_12_13 := Lib.hid (C1_12.out.under hbx13)
          have N12_13 := Lib.hid (N12.out.call hbx13)
          refine hK.out _ _ (KS8.out _ Tx13.out) (fun hHeld13 => ?_)
          clear hK K hHeld12 hbx13
          try simp only [Act.put, List.getElem_toArray, List.getElem_cons_zero, List.getElem_cons_succ, List.setIfInBounds_toArray, List.set_cons_zero, List.set_cons_succ]
          refine wpAnyK_step (i := 6) rfl (by kernel_rfl) (fun K hK => ?_)
          go_simp
          obtain ⟨ux14, hux14⟩ : ∃ W, ux13.alloc (.cells #[.nilFunc] 33) = W := ⟨_, rfl⟩
          have hv14 := hux14
          have hbx14 : Below ux13.heap.size ux13 ux14 := by rw [← hux14]; exact (Below.refl _ _).alloc (Nat.le_refl _) _
          have N14 := Lib.hid (show Nil9 w2 ux14 ux13.heap.size by rw [← hux14]; exact Nil9.new Tx13.out.2.size)
          have zx14 := Lib.hid (show ux14.heap.size = ux13.heap.size + 1 by rw [← hux14]; exact size_new _ _)
          rw [hv14]
          clear hux14 hv14
          have Tx14 := Lib.hid (And.intro (Tx13.out.1.call hbx14) (Tx13.out.2.trans (hbx14.mono Tx13.out.2.size)))
          have C1_12_13_14 := Lib.hid (C1_12_13.out.under hbx14)
          have C13_14 := Lib.hid (C13.out.under hbx14)
          have N12_13_14 := Lib.hid (N12_13.out.call hbx14)
          refine hK.out _ _ (KS8.out _ Tx14.out) (fun hHeld14 => ?_)
          clear hK K hHeld13 hbx14
          try simp only [Act.put, List.getElem_toArray, List.getElem_cons_zero, List.getElem_cons_succ, List.setIfInBounds_toArray, List.set_cons_zero, List.set_cons_succ]
          refine wpAnyK_done (by kernel_rfl) ?_
          simp only [List.drop_succ_cons, List.drop_zero]
          have yx1 := zx1.out
          have yx12 := zx12.out
          have yx13 := zx13.out
          have yx14 := zx14.out
          have vx9 := N14.out.1
          have vx10 := N12_13_14.out.1
          have HF8 := Lib.hid (Clo2.end (w := w) C1_12_13_14.out C13_14.out (b9 := ux13.heap.size) (b10 := ux1.heap.size) (by omega) N14.out.2.1 N12_13_14.out.2.1 ⟨by omega, by omega, fun x hx hn => by have := r3lt x hx hn; omega⟩ ⟨by omega, by omega, fun x hx hn => by have := r3lt x hx hn; omega⟩ ⟨by omega, by omega, fun x hx hn => by have := r4lt x hx hn; omega⟩ ⟨by omega, by omega, fun x hx hn => by have := r4lt x hx hn; omega⟩)
          have HT8 := Lib.hid (S2.out.call ((Tx14.out.2.setCell (p := ⟨ux13.heap.size, 0, none⟩) (by show w2.heap.size ≤ ux13.heap.size; omega) (.func (.func 181) #[] #[.pointer (some ⟨Bx1 + 1, 0, none⟩), .pointer (some ⟨Bx1, 0, none⟩)])).setCell (p := ⟨ux1.heap.size, 0, none⟩) (by show w2.heap.size ≤ ux1.heap.size; omega) (.func (.func 181) #[] #[.pointer (some ⟨Bx13 + 1, 0, none⟩), .pointer (some ⟨Bx13, 0, none⟩)])))
          obtain ⟨g1, g2, g3⟩ := N14.out
          obtain ⟨g4, g5, g6⟩ := N12_13_14.out
          have gn : ¬ ux13.heap.size = ux1.heap.size := by omega
          have gn' : ¬ ux1.heap.size = ux13.heap.size := by omega
          clear yx1 yx12 yx13 yx14 vx9 vx10
          clear hHeld14
          go_wp2_with fail
          go_meet
          exact ⟨ux13.heap.size, ux1.heap.size, Bx1, Bx13, rfl, rfl, HT8, HF8⟩
        · go_simp
          obtain ⟨ux15, hux15⟩ : ∃ W, ux12.alloc (.cells #[.nilFunc] 33) = W := ⟨_, rfl⟩
          have hv15 := hux15
          have hbx15 : Below ux12.heap.size ux12 ux15 := by rw [← hux15]; exact (Below.refl _ _).alloc (Nat.le_refl _) _
          have N15 := Lib.hid (show Nil9 w2 ux15 ux12.heap.size by rw [← hux15]; exact Nil9.new Tx12.out.2.size)
          have zx15 := Lib.hid (show ux15.heap.size = ux12.heap.size + 1 by rw [← hux15]; exact size_new _ _)
          rw [hv15]
          clear hux15 hv15
          have Tx15 := Lib.hid (And.intro (Tx12.out.1.call hbx15) (Tx12.out.2.trans (hbx15.mono Tx12.out.2.size)))
          have C1_12_15 := Lib.hid (C1_12.out.under hbx15)
          have N12_15 := Lib.hid (N12.out.call hbx15)
          refine hK.out _ _ (KS8.out _ Tx15.out) (fun hHeld15 => ?_)
          clear hK K hHeld12 hbx15
          try simp only [Act.put, List.getElem_toArray, List.getElem_cons_zero, List.getElem_cons_succ, List.setIfInBounds_toArray, List.set_cons_zero, List.set_cons_succ]
          refine wpAnyK_step (i := 5) rfl (by kernel_rfl) (fun K hK => ?_)
          go_simp
          with_reducible refine (pvalues_p a4 n4 cap4 y2 q2 j2 HP.out.k _ Tx15.out.1.r2).mono ?_
          rintro e ux16 ⟨Bx16, rfl, hbx16, hlx16, hmx16, hcx16⟩
          have Tx16 := Lib.hid (And.intro (Tx15.out.1.call hbx16) (Tx15.out.2.trans (hbx16.mono Tx15.out.2.size)))
          have zx16 := Lib.hid (And.intro hbx16.size (And.intro hlx16 hmx16))
          have C16 := Lib.hid hcx16
          clear hlx16 hmx16 hcx16
          have C1_12_15_16 := Lib.hid (C1_12_15.out.under hbx16)
          have N15_16 := Lib.hid (N15.out.call hbx16)
          have N12_15_16 := Lib.hid (N12_15.out.call hbx16)
          refine hK.out _ _ (KS8.out _ Tx16.out) (fun hHeld16 => ?_)
          clear hK K hHeld15 hbx16
          try simp only [Act.put, List.getElem_toArray, List.getElem_cons_zero, List.getElem_cons_succ, List.setIfInBounds_toArray, List.set_cons_zero, List.set_cons_succ]
          refine wpAnyK_done (by kernel_rfl) ?_
          simp only [List.drop_succ_cons, List.drop_zero]
          have yx1 := zx1.out
          have yx12 := zx12.out
          have yx15 := zx15.out
          have yx16 := zx16.out
          have vx9 := N15_16.out.1
          have vx10 := N12_15_16.out.1
          have HF8 := Lib.hid (Clo2.end (w := w) C1_12_15_16.out C16.out (b9 := ux12.heap.size) (b10 := ux1.heap.size) (by omega) N15_16.out.2.1 N12_15_16.out.2.1 ⟨by omega, by omega, fun x hx hn => by have := r3lt x hx hn; omega⟩ ⟨by omega, by omega, fun x hx hn => by have := r3lt x hx hn; omega⟩ ⟨by omega, by omega, fun x hx hn => by have := r4lt x hx hn; omega⟩ ⟨by omega, by omega, fun x hx hn => by have := r4lt x hx hn; omega⟩)
          have HT8 := Lib.hid (S2.out.call ((Tx16.out.2.setCell (p := ⟨ux12.heap.size, 0, none⟩) (by show w2.heap.size ≤ ux12.heap.size; omega) (.func (.func 181) #[] #[.pointer (some ⟨Bx1 + 1, 0, none⟩), .pointer (some ⟨Bx1, 0, none⟩)])).setCell (p := ⟨ux1.heap.size, 0, none⟩) (by show w2.heap.size ≤ ux1.heap.size; omega) (.func (.func 181) #[] #[.pointer (some ⟨Bx16 + 1, 0, none⟩), .pointer (some ⟨Bx16, 0, none⟩)])))
          obtain ⟨g1, g2, g3⟩ := N15_16.out
          obtain ⟨g4, g5, g6⟩ := N12_15_16.out
          have gn : ¬ ux12.heap.size = ux1.heap.size := by omega
          have gn' : ¬ ux1.heap.size = ux12.heap.size := by omega
          clear yx1 yx12 yx15 yx16 vx9 vx10
          clear hHeld16
          go_wp2_with fail
          go_meet
          exact ⟨ux12.heap.size, ux1.heap.size, Bx1, Bx16, rfl, rfl, HT8, HF8⟩
    · go_simp
      obtain ⟨ux17, hv17⟩ : ∃ W, (w2.alloc (.cells #[.nilFunc] 33)).drew = W := ⟨_, rfl⟩
      have hux17 : w2.drew.alloc (.cells #[.nilFunc] 33) = ux17 := hv17
      have hbx17 : Below w2.drew.heap.size w2.drew ux17 := by rw [← hux17]; exact (Below.refl _ _).alloc (Nat.le_refl _) _
      have N17 := Lib.hid (show Nil9 w2 ux17 w2.heap.size by rw [← hux17]; exact Nil9.new T0'.out.2.size)
      have zx17 := Lib.hid (show ux17.heap.size = w2.heap.size + 1 by rw [← hux17]; exact size_new _ _)
      rw [hv17]
      clear hux17 hv17
      have Tx17 := Lib.hid (And.intro (T0'.out.1.call hbx17) (T0'.out.2.trans (hbx17.mono T0'.out.2.size)))
      refine hK.out _ _ (KS8.out _ Tx17.out) (fun hHeld17 => ?_)
      clear hK K hHeld0 hbx17
      try simp only [Act.put, List.getElem_toArray, List.getElem_cons_zero, List.getElem_cons_succ, List.setIfInBounds_toArray, List.set_cons_zero, List.set_cons_succ]
      refine wpAnyK_two (i := 2) (j := 7) rfl rfl (by kernel_rfl) (fun K hK => ?_) (fun K hK => ?_)
      · go_simp
        with_reducible refine (pvalues_p a3 n3 cap3 y1 q1 j1 HP.out.g _ Tx17.out.1.r1).mono ?_
        rintro e ux18 ⟨Bx18, rfl, hbx18, hlx18, hmx18, hcx18⟩
        have Tx18 := Lib.hid (And.intro (Tx17.out.1.call hbx18) (Tx17.out.2.trans (hbx18.mono Tx17.out.2.size)))
        have zx18 := Lib.hid (And.intro hbx18.size (And.intro hlx18 hmx18))
        have C18 := Lib.hid hcx18
        clear hlx18 hmx18 hcx18
        have N17_18 := Lib.hid (N17.out.call hbx18)
        refine hK.out _ _ (KS8.out _ Tx18.out) (fun hHeld18 => ?_)
        clear hK K hHeld17 hbx18
        try simp only [Act.put, List.getElem_toArray, List.getElem_cons_zero, List.getElem_cons_succ, List.setIfInBounds_toArray, List.set_cons_zero, List.set_cons_succ]
        refine wpAnyK_two (i := 5) (j := 7) rfl rfl (by kernel_rfl) (fun K hK => ?_) (fun K hK => ?_)
        · go_simp
          with_reducible refine (pvalues_p a4 n4 cap4 y2 q2 j2 HP.out.k _ Tx18.out.1.r2).mono ?_
          rintro e ux19 ⟨Bx19, rfl, hbx19, hlx19, hmx19, hcx19⟩
          have Tx19 := Lib.hid (And.intro (Tx18.out.1.call hbx19) (Tx18.out.2.trans (hbx19.mono Tx18.out.2.size)))
          have zx19 := Lib.hid (And.intro hbx19.size (And.intro hlx19 hmx19))
          have C19 := Lib.hid hcx19
          clear hlx19 hmx19 hcx19
          have C18_19 := Lib.hid (C18.out.under hbx19)
          have N17_18_19 := Lib.hid (N17_18.out.call hbx19)
          refine hK.out _ _ (KS8.out _ Tx19.out) (fun hHeld19 => ?_)
          clear hK K hHeld18 hbx19
          try simp only [Act.put, List.getElem_toArray, List.getElem_cons_zero, List.getElem_cons_succ, List.setIfInBounds_toArray, List.set_cons_zero, List.set_cons_succ]
          refine wpAnyK_step (i := 7) rfl (by kernel_rfl) (fun K hK => ?_)
          go_simp
          obtain ⟨ux20, hux20⟩ : ∃ W, ux19.alloc (.cells #[.nilFunc] 33) = W := ⟨_, rfl⟩
          have hv20 := hux20
          have hbx20 : Below ux19.heap.size ux19 ux20 := by rw [← hux20]; exact (Below.refl _ _).alloc (Nat.le_refl _) _
          have N20 := Lib.hid (show Nil9 w2 ux20 ux19.heap.size by rw [← hux20]; exact Nil9.new Tx19.out.2.size)
          have zx20 := Lib.hid (show ux20.heap.size = ux19.heap.size + 1 by rw [← hux20]; exact size_new _ _)
          rw [hv20]
          clear hux20 hv20
          have Tx20 := Lib.hid (And.intro (Tx19.out.1.call hbx20) (Tx19.out.2.trans (hbx20.mono Tx19.out.2.size)))
          have C18_19_20 := Lib.hid (C18_19.out.under hbx20)
          have C19_20 := Lib.hid (C19.out.under hbx20)
          have N17_18_19_20 := Lib.hid (N17_18_19.out.call hbx20)
          refine hK.out _ _ (KS8.out _ Tx20.out) (fun hHeld20 => ?_)
          clear hK K hHeld19 hbx20
          try simp only [Act.put, List.getElem_toArray, List.getElem_cons_zero, List.getElem_cons_succ, List.setIfInBounds_toArray, List.set_cons_zero, List.set_cons_succ]
          refine wpAnyK_done (by kernel_rfl) ?_
          simp only [List.drop_succ_cons, List.drop_zero]
          have yx17 := zx17.out
          have yx18 := zx18.out
          have yx19 := zx19.out
          have yx20 := zx20.out
          have vx9 := N17_18_19_20.out.1
          have vx10 := N20.out.1
          have HF8 := Lib.hid (Clo2.end (w := w) C18_19_20.out C19_20.out (b9 := w2.heap.size) (b10 := ux19.heap.size) (by omega) N17_18_19_20.out.2.1 N20.out.2.1 ⟨by omega, by omega, fun x hx hn => by have := r3lt x hx hn; omega⟩ ⟨by omega, by omega, fun x hx hn => by have := r3lt x hx hn; omega⟩ ⟨by omega, by omega, fun x hx hn => by have := r4lt x hx hn; omega⟩ ⟨by omega, by omega, fun x hx hn => by have := r4lt x hx hn; omega⟩)
          have HT8 := Lib.hid (S2.out.call ((Tx20.out.2.setCell (p := ⟨w2.heap.size, 0, none⟩) (by show w2.heap.size ≤ w2.heap.size; omega) (.func (.func 181) #[] #[.pointer (some ⟨Bx18 + 1, 0, none⟩), .pointer (some ⟨Bx18, 0, none⟩)])).setCell (p := ⟨ux19.heap.size, 0, none⟩) (by show w2.heap.size ≤ ux19.heap.size; omega) (.func (.func 181) #[] #[.pointer (some ⟨Bx19 + 1, 0, none⟩), .pointer (some ⟨Bx19, 0, none⟩)])))
          obtain ⟨g1, g2, g3⟩ := N17_18_19_20.out
          obtain ⟨g4, g5, g6⟩ := N20.out
          have gn : ¬ w2.heap.size = ux19.heap.size := by omega
          have gn' : ¬ ux19.heap.size = w2.heap.size := by omega
          clear yx17 yx18 yx19 yx20 vx9 vx10
          clear hHeld20
          go_wp2_with fail
          go_meet
          exact ⟨w2.heap.size, ux19.heap.size, Bx18, Bx19, rfl, rfl, HT8, HF8⟩
        · go_simp
          obtain ⟨ux21, hux21⟩ : ∃ W, ux18.alloc (.cells #[.nilFunc] 33) = W := ⟨_, rfl⟩
          have hv21 := hux21
          have hbx21 : Below ux18.heap.size ux18 ux21 := by rw [← hux21]; exact (Below.refl _ _).alloc (Nat.le_refl _) _
          have N21 := Lib.hid (show Nil9 w2 ux21 ux18.heap.size by rw [← hux21]; exact Nil9.new Tx18.out.2.size)
          have zx21 := Lib.hid (show ux21.heap.size = ux18.heap.size + 1 by rw [← hux21]; exact size_new _ _)
          rw [hv21]
          clear hux21 hv21
          have Tx21 := Lib.hid (And.intro (Tx18.out.1.call hbx21) (Tx18.out.2.trans (hbx21.mono Tx18.out.2.size)))
          have C18_21 := Lib.hid (C18.out.under hbx21)
          have N17_18_21 := Lib.hid (N17_18.out.call hbx21)
          refine hK.out _ _ (KS8.out _ Tx21.out) (fun hHeld21 => ?_)
          clear hK K hHeld18 hbx21
          try simp only [Act.put, List.getElem_toArray, List.getElem_cons_zero, List.getElem_cons_succ, List.setIfInBounds_toArray, List.set_cons_zero, List.set_cons_succ]
          refine wpAnyK_step (i := 5) rfl (by kernel_rfl) (fun K hK => ?_)
          go_simp
          with_reducible refine (pvalues_p a4 n4 cap4 y2 q2 j2 HP.out.k _ Tx21.out.1.r2).mono ?_
          rintro e ux22 ⟨Bx22, rfl, hbx22, hlx22, hmx22, hcx22⟩
          have Tx22 := Lib.hid (And.intro (Tx21.out.1.call hbx22) (Tx21.out.2.trans (hbx22.mono Tx21.out.2.size)))
          have zx22 := Lib.hid (And.intro hbx22.size (And.intro hlx22 hmx22))
          have C22 := Lib.hid hcx22
          clear hlx22 hmx22 hcx22
          have C18_21_22 := Lib.hid (C18_21.out.under hbx22)
          have N17_18_21_22 := Lib.hid (N17_18_21.out.call hbx22)
          have N21_22 := Lib.hid (N21.out.call hbx22)
          refine hK.out _ _ (KS8.out _ Tx22.out) (fun hHeld22 => ?_)
          clear hK K hHeld21 hbx22
          try simp only [Act.put, List.getElem_toArray, List.getElem_cons_zero, List.getElem_cons_succ, List.setIfInBounds_toArray, List.set_cons_zero, List.set_cons_succ]
          refine wpAnyK_done (by kernel_rfl) ?_
          simp only [List.drop_succ_cons, List.drop_zero]
          have yx17 := zx17.out
          have yx18 := zx18.out
          have yx21 := zx21.out
          have yx22 := zx22.out
          have vx9 := N17_18_21_22.out.1
          have vx10 := N21_22.out.1
          have HF8 := Lib.hid (Clo2.end (w := w) C18_21_22.out C22.out (b9 := w2.heap.size) (b10 := ux18.heap.size) (by omega) N17_18_21_22.out.2.1 N21_22.out.2.1 ⟨by omega, by omega, fun x hx hn => by have := r3lt x hx hn; omega⟩ ⟨by omega, by omega, fun x hx hn => by have := r3lt x hx hn; omega⟩ ⟨by omega, by omega, fun x hx hn => by have := r4lt x hx hn; omega⟩ ⟨by omega, by omega, fun x hx hn => by have := r4lt x hx hn; omega⟩)
          have HT8 := Lib.hid (S2.out.call ((Tx22.out.2.setCell (p := ⟨w2.heap.size, 0, none⟩) (by show w2.heap.size ≤ w2.heap.size; omega) (.func (.func 181) #[] #[.pointer (some ⟨Bx18 + 1, 0, none⟩), .pointer (some ⟨Bx18, 0, none⟩)])).setCell (p := ⟨ux18.heap.size, 0, none⟩) (by show w2.heap.size ≤ ux18.heap.size; omega) (.func (.func 181) #[] #[.pointer (some ⟨Bx22 + 1, 0, none⟩), .pointer (some ⟨Bx22, 0, none⟩)])))
          obtain ⟨g1, g2, g3⟩ := N17_18_21_22.out
          obtain ⟨g4, g5, g6⟩ := N21_22.out
          have gn : ¬ w2.heap.size = ux18.heap.size := by omega
          have gn' : ¬ ux18.heap.size = w2.heap.size := by omega
          clear yx17 yx18 yx21 yx22 vx9 vx10
          clear hHeld22
          go_wp2_with fail
          go_meet
          exact ⟨w2.heap.size, ux18.heap.size, Bx18, Bx22, rfl, rfl, HT8, HF8⟩
      · go_simp
        obtain ⟨ux23, hux23⟩ : ∃ W, ux17.alloc (.cells #[.nilFunc] 33) = W := ⟨_, rfl⟩
        have hv23 := hux23
        have hbx23 : Below ux17.heap.size ux17 ux23 := by rw [← hux23]; exact (Below.refl _ _).alloc (Nat.le_refl _) _
        have N23 := Lib.hid (show Nil9 w2 ux23 ux17.heap.size by rw [← hux23]; exact Nil9.new Tx17.out.2.size)
        have zx23 := Lib.hid (show ux23.heap.size = ux17.heap.size + 1 by rw [← hux23]; exact size_new _ _)
        rw [hv23]
        clear hux23 hv23
        have Tx23 := Lib.hid (And.intro (Tx17.out.1.call hbx23) (Tx17.out.2.trans (hbx23.mono Tx17.out.2.size)))
        have N17_23 := Lib.hid (N17.out.call hbx23)
        refine hK.out _ _ (KS8.out _ Tx23.out) (fun hHeld23 => ?_)
        clear hK K hHeld17 hbx23
        try simp only [Act.put, List.getElem_toArray, List.getElem_cons_zero, List.getElem_cons_succ, List.setIfInBounds_toArray, List.set_cons_zero, List.set_cons_succ]
        refine wpAnyK_step (i := 2) rfl (by kernel_rfl) (fun K hK => ?_)
        go_simp
        with_reducible refine (pvalues_p a3 n3 cap3 y1 q1 j1 HP.out.g _ Tx23.out.1.r1).mono ?_
        rintro e ux24 ⟨Bx24, rfl, hbx24, hlx24, hmx24, hcx24⟩
        have Tx24 := Lib.hid (And.intro (Tx23.out.1.call hbx24) (Tx23.out.2.trans (hbx24.mono Tx23.out.2.size)))
        have zx24 := Lib.hid (And.intro hbx24.size (And.intro hlx24 hmx24))
        have C24 := Lib.hid hcx24
        clear hlx24 hmx24 hcx24
        have N17_23_24 := Lib.hid (N17_23.out.call hbx24)
        have N23_24 := Lib.hid (N23.out.call hbx24)
        refine hK.out _ _ (KS8.out _ Tx24.out) (fun hHeld24 => ?_)
        clear hK K hHeld23 hbx24
        try simp only [Act.put, List.getElem_toArray, List.getElem_cons_zero, List.getElem_cons_succ, List.setIfInBounds_toArray, List.set_cons_zero, List.set_cons_succ]
        refine wpAnyK_step (i := 5) rfl (by kernel_rfl) (fun K hK => ?_)
        go_simp
        with_reducible refine (pvalues_p a4 n4 cap4 y2 q2 j2 HP.out.k _ Tx24.out.1.r2).mono ?_
        rintro e ux25 ⟨Bx25, rfl, hbx25, hlx25, hmx25, hcx25⟩
        have Tx25 := Lib.hid (And.intro (Tx24.out.1.call hbx25) (Tx24.out.2.trans (hbx25.mono Tx24.out.2.size)))
        have zx25 := Lib.hid (And.intro hbx25.size (And.intro hlx25 hmx25))
        have C25 := Lib.hid hcx25
        clear hlx25 hmx25 hcx25
        have C24_25 := Lib.hid (C24.out.under hbx25)
        have N17_23_24_25 := Lib.hid (N17_23_24.out.call hbx25)
        have N23_24_25 := Lib.hid (N23_24.out.call hbx25)
        refine hK.out _ _ (KS8.out _ Tx25.out) (fun hHeld25 => ?_)
        clear hK K hHeld24 hbx25
        try simp only [Act.put, List.getElem_toArray, List.getElem_cons_zero, List.getElem_cons_succ, List.setIfInBounds_toArray, List.set_cons_zero, List.set_cons_succ]
        refine wpAnyK_done (by kernel_rfl) ?_
        simp only [List.drop_succ_cons, List.drop_zero]
        have yx17 := zx17.out
        have yx23 := zx23.out
        have yx24 := zx24.out
        have yx25 := zx25.out
        have vx9 := N17_23_24_25.out.1
        have vx10 := N23_24_25.out.1
        have HF8 := Lib.hid (Clo2.end (w := w) C24_25.out C25.out (b9 := w2.heap.size) (b10 := ux17.heap.size) (by omega) N17_23_24_25.out.2.1 N23_24_25.out.2.1 ⟨by omega, by omega, fun x hx hn => by have := r3lt x hx hn; omega⟩ ⟨by omega, by omega, fun x hx hn => by have := r3lt x hx hn; omega⟩ ⟨by omega, by omega, fun x hx hn => by have := r4lt x hx hn; omega⟩ ⟨by omega, by omega, fun x hx hn => by have := r4lt x hx hn; omega⟩)
        have HT8 := Lib.hid (S2.out.call ((Tx25.out.2.setCell (p := ⟨w2.heap.size, 0, none⟩) (by show w2.heap.size ≤ w2.heap.size; omega) (.func (.func 181) #[] #[.pointer (some ⟨Bx24 + 1, 0, none⟩), .pointer (some ⟨Bx24, 0, none⟩)])).setCell (p := ⟨ux17.heap.size, 0, none⟩) (by show w2.heap.size ≤ ux17.heap.size; omega) (.func (.func 181) #[] #[.pointer (some ⟨Bx25 + 1, 0, none⟩), .pointer (some ⟨Bx25, 0, none⟩)])))
        obtain ⟨g1, g2, g3⟩ := N17_23_24_25.out
        obtain ⟨g4, g5, g6⟩ := N23_24_25.out
        have gn : ¬ w2.heap.size = ux17.heap.size := by omega
        have gn' : ¬ ux17.heap.size = w2.heap.size := by omega
        clear yx17 yx23 yx24 yx25 vx9 vx10
        clear hHeld25
        go_wp2_with fail
        go_meet
        exact ⟨w2.heap.size, ux17.heap.size, Bx24, Bx25, rfl, rfl, HT8, HF8⟩
    · go_simp
      obtain ⟨ux26, hv26⟩ : ∃ W, (w2.alloc (.cells #[.nilFunc] 33)).drew = W := ⟨_, rfl⟩
      have hux26 : w2.drew.alloc (.cells #[.nilFunc] 33) = ux26 := hv26
      have hbx26 : Below w2.drew.heap.size w2.drew ux26 := by rw [← hux26]; exact (Below.refl _ _).alloc (Nat.le_refl _) _
      have N26 := Lib.hid (show Nil9 w2 ux26 w2.heap.size by rw [← hux26]; exact Nil9.new T0'.out.2.size)
      have zx26 := Lib.hid (show ux26.heap.size = w2.heap.size + 1 by rw [← hux26]; exact size_new _ _)
      rw [hv26]
      clear hux26 hv26
      have Tx26 := Lib.hid (And.intro (T0'.out.1.call hbx26) (T0'.out.2.trans (hbx26.mono T0'.out.2.size)))
      refine hK.out _ _ (KS8.out _ Tx26.out) (fun hHeld26 => ?_)
      clear hK K hHeld0 hbx26
      try simp only [Act.put, List.getElem_toArray, List.getElem_cons_zero, List.getElem_cons_succ, List.setIfInBounds_toArray, List.set_cons_zero, List.set_cons_succ]
      refine wpAnyK_two (i := 2) (j := 6) rfl rfl (by kernel_rfl) (fun K hK => ?_) (fun K hK => ?_)
      · go_simp
        with_reducible refine (pvalues_p a3 n3 cap3 y1 q1 j1 HP.out.g _ Tx26.out.1.r1).mono ?_
        rintro e ux27 ⟨Bx27, rfl, hbx27, hlx27, hmx27, hcx27⟩
        have Tx27 := Lib.hid (And.intro (Tx26.out.1.call hbx27) (Tx26.out.2.trans (hbx27.mono Tx26.out.2.size)))
        have zx27 := Lib.hid (And.intro hbx27.size (And.intro hlx27 hmx27))
        have C27 := Lib.hid hcx27
        clear hlx27 hmx27 hcx27
        have N26_27 := Lib.hid (N26.out.call hbx27)
        refine hK.out _ _ (KS8.out _ Tx27.out) (fun hHeld27 => ?_)
        clear hK K hHeld26 hbx27
        try simp only [Act.put, List.getElem_toArray, List.getElem_cons_zero, List.getElem_cons_succ, List.setIfInBounds_toArray, List.set_cons_zero, List.set_cons_succ]
        refine wpAnyK_two (i := 5) (j := 6) rfl rfl (by kernel_rfl) (fun K hK => ?_) (fun K hK => ?_)
        · go_simp
          with_reducible refine (pvalues_p a4 n4 cap4 y2 q2 j2 HP.out.k _ Tx27.out.1.r2).mono ?_
          rintro e ux28 ⟨Bx28, rfl, hbx28, hlx28, hmx28, hcx28⟩
          have Tx28 := Lib.hid (And.intro (Tx27.out.1.call hbx28) (Tx27.out.2.trans (hbx28.mono Tx27.out.2.size)))
          have zx28 := Lib.hid (And.intro hbx28.size (And.intro hlx28 hmx28))
          have C28 := Lib.hid hcx28
          clear hlx28 hmx28 hcx28
          have C27_28 := Lib.hid (C27.out.under hbx28)
          have N26_27_28 := Lib.hid (N26_27.out.call hbx28)
          refine hK.out _ _ (KS8.out _ Tx28.out) (fun hHeld28 => ?_)
          clear hK K hHeld27 hbx28
          try simp only [Act.put, List.getElem_toArray, List.getElem_cons_zero, List.getElem_cons_succ, List.setIfInBounds_toArray, List.set_cons_zero, List.set_cons_succ]
          refine wpAnyK_step (i := 6) rfl (by kernel_rfl) (fun K hK => ?_)
          go_simp
          obtain ⟨ux29, hux29⟩ : ∃ W, ux28.alloc (.cells #[.nilFunc] 33) = W := ⟨_, rfl⟩
          have hv29 := hux29
          have hbx29 : Below ux28.heap.size ux28 ux29 := by rw [← hux29]; exact (Below.refl _ _).alloc (Nat.le_refl _) _
          have N29 := Lib.hid (show Nil9 w2 ux29 ux28.heap.size by rw [← hux29]; exact Nil9.new Tx28.out.2.size)
          have zx29 := Lib.hid (show ux29.heap.size = ux28.heap.size + 1 by rw [← hux29]; exact size_new _ _)
          rw [hv29]
          clear hux29 hv29
          have Tx29 := Lib.hid (And.intro (Tx28.out.1.call hbx29) (Tx28.out.2.trans (hbx29.mono Tx28.out.2.size)))
          have C27_28_29 := Lib.hid (C27_28.out.under hbx29)
          have C28_29 := Lib.hid (C28.out.under hbx29)
          have N26_27_28_29 := Lib.hid (N26_27_28.out.call hbx29)
          refine hK.out _ _ (KS8.out _ Tx29.out) (fun hHeld29 => ?_)
          clear hK K hHeld28 hbx29
          try simp only [Act.put, List.getElem_toArray, List.getElem_cons_zero, List.getElem_cons_succ, List.setIfInBounds_toArray, List.set_cons_zero, List.set_cons_succ]
          refine wpAnyK_done (by kernel_rfl) ?_
          simp only [List.drop_succ_cons, List.drop_zero]
          have yx26 := zx26.out
          have yx27 := zx27.out
          have yx28 := zx28.out
          have yx29 := zx29.out
          have vx9 := N29.out.1
          have vx10 := N26_27_28_29.out.1
          have HF8 := Lib.hid (Clo2.end (w := w) C27_28_29.out C28_29.out (b9 := ux28.heap.size) (b10 := w2.heap.size) (by omega) N29.out.2.1 N26_27_28_29.out.2.1 ⟨by omega, by omega, fun x hx hn => by have := r3lt x hx hn; omega⟩ ⟨by omega, by omega, fun x hx hn => by have := r3lt x hx hn; omega⟩ ⟨by omega, by omega, fun x hx hn => by have := r4lt x hx hn; omega⟩ ⟨by omega, by omega, fun x hx hn => by have := r4lt x hx hn; omega⟩)
          have HT8 := Lib.hid (S2.out.call ((Tx29.out.2.setCell (p := ⟨ux28.heap.size, 0, none⟩) (by show w2.heap.size ≤ ux28.heap.size; omega) (.func (.func 181) #[] #[.pointer (some ⟨Bx27 + 1, 0, none⟩), .pointer (some ⟨Bx27, 0, none⟩)])).setCell (p := ⟨w2.heap.size, 0, none⟩) (by show w2.heap.size ≤ w2.heap.size; omega) (.func (.func 181) #[] #[.pointer (some ⟨Bx28 + 1, 0, none⟩), .pointer (some ⟨Bx28, 0, none⟩)])))
          obtain ⟨g1, g2, g3⟩ := N29.out
          obtain ⟨g4, g5, g6⟩ := N26_27_28_29.out
          have gn : ¬ ux28.heap.size = w2.heap.size := by omega
          have gn' : ¬ w2.heap.size = ux28.heap.size := by omega
          clear yx26 yx27 yx28 yx29 vx9 vx10
          clear hHeld29
          go_wp2_with fail
          go_meet
          exact ⟨ux28.heap.size, w2.heap.size, Bx27, Bx28, rfl, rfl, HT8, HF8⟩
        · go_simp
          obtain ⟨ux30, hux30⟩ : ∃ W, ux27.alloc (.cells #[.nilFunc] 33) = W := ⟨_, rfl⟩
          have hv30 := hux30
          have hbx30 : Below ux27.heap.size ux27 ux30 := by rw [← hux30]; exact (Below.refl _ _).alloc (Nat.le_refl _) _
          have N30 := Lib.hid (show Nil9 w2 ux30 ux27.heap.size by rw [← hux30]; exact Nil9.new Tx27.out.2.size)
          have zx30 := Lib.hid (show ux30.heap.size = ux27.heap.size + 1 by rw [← hux30]; exact size_new _ _)
          rw [hv30]
          clear hux30 hv30
          have Tx30 := Lib.hid (And.intro (Tx27.out.1.call hbx30) (Tx27.out.2.trans (hbx30.mono Tx27.out.2.size)))
          have C27_30 := Lib.hid (C27.out.under hbx30)
          have N26_27_30 := Lib.hid (N26_27.out.call hbx30)
          refine hK.out _ _ (KS8.out _ Tx30.out) (fun hHeld30 => ?_)
          clear hK K hHeld27 hbx30
          try simp only [Act.put, List.getElem_toArray, List.getElem_cons_zero, List.getElem_cons_succ, List.setIfInBounds_toArray, List.set_cons_zero, List.set_cons_succ]
          refine wpAnyK_step (i := 5) rfl (by kernel_rfl) (fun K hK => ?_)
          go_simp
          with_reducible refine (pvalues_p a4 n4 cap4 y2 q2 j2 HP.out.k _ Tx30.out.1.r2).mono ?_
          rintro e ux31 ⟨Bx31, rfl, hbx31, hlx31, hmx31, hcx31⟩
          have Tx31 := Lib.hid (And.intro (Tx30.out.1.call hbx31) (Tx30.out.2.trans (hbx31.mono Tx30.out.2.size)))
          have zx31 := Lib.hid (And.intro hbx31.size (And.intro hlx31 hmx31))
          have C31 := Lib.hid hcx31
          clear hlx31 hmx31 hcx31
          have C27_30_31 := Lib.hid (C27_30.out.under hbx31)
          have N30_31 := Lib.hid (N30.out.call hbx31)
          have N26_27_30_31 := Lib.hid (N26_27_30.out.call hbx31)
          refine hK.out _ _ (KS8.out _ Tx31.out) (fun hHeld31 => ?_)
          clear hK K hHeld30 hbx31
          try simp only [Act.put, List.getElem_toArray, List.getElem_cons_zero, List.getElem_cons_succ, List.setIfInBounds_toArray, List.set_cons_zero, List.set_cons_succ]
          refine wpAnyK_done (by kernel_rfl) ?_
          simp only [List.drop_succ_cons, List.drop_zero]
          have yx26 := zx26.out
          have yx27 := zx27.out
          have yx30 := zx30.out
          have yx31 := zx31.out
          have vx9 := N30_31.out.1
          have vx10 := N26_27_30_31.out.1
          have HF8 := Lib.hid (Clo2.end (w := w) C27_30_31.out C31.out (b9 := ux27.heap.size) (b10 := w2.heap.size) (by omega) N30_31.out.2.1 N26_27_30_31.out.2.1 ⟨by omega, by omega, fun x hx hn => by have := r3lt x hx hn; omega⟩ ⟨by omega, by omega, fun x hx hn => by have := r3lt x hx hn; omega⟩ ⟨by omega, by omega, fun x hx hn => by have := r4lt x hx hn; omega⟩ ⟨by omega, by omega, fun x hx hn => by have := r4lt x hx hn; omega⟩)
          have HT8 := Lib.hid (S2.out.call ((Tx31.out.2.setCell (p := ⟨ux27.heap.size, 0, none⟩) (by show w2.heap.size ≤ ux27.heap.size; omega) (.func (.func 181) #[] #[.pointer (some ⟨Bx27 + 1, 0, none⟩), .pointer (some ⟨Bx27, 0, none⟩)])).setCell (p := ⟨w2.heap.size, 0, none⟩) (by show w2.heap.size ≤ w2.heap.size; omega) (.func (.func 181) #[] #[.pointer (some ⟨Bx31 + 1, 0, none⟩), .pointer (some ⟨Bx31, 0, none⟩)])))
          obtain ⟨g1, g2, g3⟩ := N30_31.out
          obtain ⟨g4, g5, g6⟩ := N26_27_30_31.out
          have gn : ¬ ux27.heap.size = w2.heap.size := by omega
          have gn' : ¬ w2.heap.size = ux27.heap.size := by omega
          clear yx26 yx27 yx30 yx31 vx9 vx10
          clear hHeld31
          go_wp2_with fail
          go_meet
          exact ⟨ux27.heap.size, w2.heap.size, Bx27, Bx31, rfl, rfl, HT8, HF8⟩
      · go_simp
        obtain ⟨ux32, hux32⟩ : ∃ W, ux26.alloc (.cells #[.nilFunc] 33) = W := ⟨_, rfl⟩
        have hv32 := hux32
        have hbx32 : Below ux26.heap.size ux26 ux32 := by rw [← hux32]; exact (Below.refl _ _).alloc (Nat.le_refl _) _
        have N32 := Lib.hid (show Nil9 w2 ux32 ux26.heap.size by rw [← hux32]; exact Nil9.new Tx26.out.2.size)
        have zx32 := Lib.hid (show ux32.heap.size = ux26.heap.size + 1 by rw [← hux32]; exact size_new _ _)
        rw [hv32]
        clear hux32 hv32
        have Tx32 := Lib.hid (And.intro (Tx26.out.1.call hbx32) (Tx26.out.2.trans (hbx32.mono Tx26.out.2.size)))
        have N26_32 := Lib.hid (N26.out.call hbx32)
        refine hK.out _ _ (KS8.out _ Tx32.out) (fun hHeld32 => ?_)
        clear hK K hHeld26 hbx32
        try simp only [Act.put, List.getElem_toArray, List.getElem_cons_zero, List.getElem_cons_succ, List.setIfInBounds_toArray, List.set_cons_zero, List.set_cons_succ]
        refine wpAnyK_step (i := 2) rfl (by kernel_rfl) (fun K hK => ?_)
        go_simp
        with_reducible refine (pvalues_p a3 n3 cap3 y1 q1 j1 HP.out.g _ Tx32.out.1.r1).mono ?_
        rintro e ux33 ⟨Bx33, rfl, hbx33, hlx33, hmx33, hcx33⟩
        have Tx33 := Lib.hid (And.intro (Tx32.out.1.call hbx33) (Tx32.out.2.trans (hbx33.mono Tx32.out.2.size)))
        have zx33 := Lib.hid (And.intro hbx33.size (And.intro hlx33 hmx33))
        have C33 := Lib.hid hcx33
        clear hlx33 hmx33 hcx33
        have N32_33 := Lib.hid (N32.out.call hbx33)
        have N26_32_33 := Lib.hid (N26_32.out.call hbx33)
        refine hK.out _ _ (KS8.out _ Tx33.out) (fun hHeld33 => ?_)
        clear hK K hHeld32 hbx33
        try simp only [Act.put, List.getElem_toArray, List.getElem_cons_zero, List.getElem_cons_succ, List.setIfInBounds_toArray, List.set_cons_zero, List.set_cons_succ]
        refine wpAnyK_step (i := 5) rfl (by kernel_rfl) (fun K hK => ?_)
        go_simp
        with_reducible refine (pvalues_p a4 n4 cap4 y2 q2 j2 HP.out.k _ Tx33.out.1.r2).mono ?_
        rintro e ux34 ⟨Bx34, rfl, hbx34, hlx34, hmx34, hcx34⟩
        have Tx34 := Lib.hid (And.intro (Tx33.out.1.call hbx34) (Tx33.out.2.trans (hbx34.mono Tx33.out.2.size)))
        have zx34 := Lib.hid (And.intro hbx34.size (And.intro hlx34 hmx34))
        have C34 := Lib.hid hcx34
        clear hlx34 hmx34 hcx34
        have C33_34 := Lib.hid (C33.out.under hbx34)
        have N32_33_34 := Lib.hid (N32_33.out.call hbx34)
        have N26_32_33_34 := Lib.hid (N26_32_33.out.call hbx34)
        refine hK.out _ _ (KS8.out _ Tx34.out) (fun hHeld34 => ?_)
        clear hK K hHeld33 hbx34
        try simp only [Act.put, List.getElem_toArray, List.getElem_cons_zero, List.getElem_cons_succ, List.setIfInBounds_toArray, List.set_cons_zero, List.set_cons_succ]
        refine wpAnyK_done (by kernel_rfl) ?_
        simp only [List.drop_succ_cons, List.drop_zero]
        have yx26 := zx26.out
        have yx32 := zx32.out
        have yx33 := zx33.out
        have yx34 := zx34.out
        have vx9 := N32_33_34.out.1
        have vx10 := N26_32_33_34.out.1
        have HF8 := Lib.hid (Clo2.end (w := w) C33_34.out C34.out (b9 := ux26.heap.size) (b10 := w2.heap.size) (by omega) N32_33_34.out.2.1 N26_32_33_34.out.2.1 ⟨by omega, by omega, fun x hx hn => by have := r3lt x hx hn; omega⟩ ⟨by omega, by omega, fun x hx hn => by have := r3lt x hx hn; omega⟩ ⟨by omega, by omega, fun x hx hn => by have := r4lt x hx hn; omega⟩ ⟨by omega, by omega, fun x hx hn => by have := r4lt x hx hn; omega⟩)
        have HT8 := Lib.hid (S2.out.call ((Tx34.out.2.setCell (p := ⟨ux26.heap.size, 0, none⟩) (by show w2.heap.size ≤ ux26.heap.size; omega) (.func (.func 181) #[] #[.pointer (some ⟨Bx33 + 1, 0, none⟩), .pointer (some ⟨Bx33, 0, none⟩)])).setCell (p := ⟨w2.heap.size, 0, none⟩) (by show w2.heap.size ≤ w2.heap.size; omega) (.func (.func 181) #[] #[.pointer (some ⟨Bx34 + 1, 0, none⟩), .pointer (some ⟨Bx34, 0, none⟩)])))
        obtain ⟨g1, g2, g3⟩ := N32_33_34.out
        obtain ⟨g4, g5, g6⟩ := N26_32_33_34.out
        have gn : ¬ ux26.heap.size = w2.heap.size := by omega
        have gn' : ¬ w2.heap.size = ux26.heap.size := by omega
        clear yx26 yx32 yx33 yx34 vx9 vx10
        clear hHeld34
        go_wp2_with fail
        go_meet
        exact ⟨ux26.heap.size, w2.heap.size, Bx33, Bx34, rfl, rfl, HT8, HF8⟩
  case rest =>
    obtain ⟨b9, b10, B1, B2, rfl, rfl, S5, HC⟩ := hcut
    obtain ⟨w5, rfl⟩ : ∃ u : World, u = wc := ⟨_, rfl⟩
    clear c0 c1 c2 f0 f1 f2 c3 c4 c5 c6 f3 f4 f5 f6
    have HCD := Lib.hid (show ClosD 132 #[.pointer (some ⟨b9, 0, none⟩), .pointer (some ⟨b10, 0, none⟩)] (max (y1.length - q1) (y2.length - q2) + L) (gapI (fun t => eC y1 q1 j1 (t + 1)) (eC y2 q2 j2)) w5 from fun u hu t ht => by
      have hp := HP.out
      have hfe := hp.g.few
      have hfe2 := hp.k.few
      have hl := hp.l
      have C := HC.out.call hu
      exact peak1_any b9 b10 B1 B2 a3 n3 cap3 q1 j1 y1 a4 n4 cap4 q2 j2 y2 L hp.g hp.k t (by omega) u ⟨C.v1, C.v2, C.k1, C.k2, Below.refl _ _⟩)
    have EG := Lib.hid (show ∀ (args : Array Value) (w : World), (callFunc 132 args).run Try.prog w = .ok (.enter 132 args) w from enters_of Try.func132 (by kernel_rfl) rfl)
    obtain ⟨⟨c0, c1, c2, f0, f1, f2⟩, c3, c4, c5, c6, f3, f4, f5, f6⟩ := S5.out.pr
    go_wp2_with fail
    refine (greatest_any a3 n3 cap3 y1 q1 j1 a4 n4 cap4 y2 q2 j2 L HP.out 132 #[.pointer (some ⟨b9, 0, none⟩), .pointer (some ⟨b10, 0, none⟩)] (gapI (fun t => eC y1 q1 j1 (t + 1)) (eC y2 q2 j2)) _ rfl (fun t ht => by
      have hp := HP.out
      have hfe := hp.g.few
      have hfe2 := hp.k.few
      have hl := hp.l
      rcases (show gapI (fun t => eC y1 q1 j1 (t + 1)) (eC y2 q2 j2) t = infV ∨ _ from gapI_bd hp.g hp.k (s := t + 1) (t := t) (by omega) (by omega)) with h | h
      · rw [h]; unfold infV; omega
      · have h1 := h.1; have h2 := h.2; constructor
        · show -9223372036854775808 ≤ gapI (fun _ => eC y1 q1 j1 (t + 1)) (eC y2 q2 j2) t; omega
        · show gapI (fun _ => eC y1 q1 j1 (t + 1)) (eC y2 q2 j2) t ≤ _; omega) _ S5.out.r1 S5.out.r2 EG.out HCD.out).mono ?_
    rintro e u7 ⟨i, m, k, rfl, hb, hG⟩
    have S6 := Lib.hid (S5.out.call hb)
    have HG := Lib.hid hG
    clear c0 c1 c2 f0 f1 f2 c3 c4 c5 c6 f3 f4 f5 f6 hb hG
    obtain ⟨c0, c1, c2, f0, f1, f2⟩ := S6.out.res
    have HF := Lib.hid (show GivesDev (DevB (fun t => eC z1 p1 i1 (t + 1)) (eC z2 p2 i2)) w (.returned (.tuple #[.agg #[.bool i, .int .i64 m, .int .i64 k], .int .i64 0])) (((u7.setCell ⟨w.heap.size + 2, 0, none⟩ (.bool i)).setCell ⟨w.heap.size + 2, 1, none⟩ (.int .i64 m)).setCell ⟨w.heap.size + 2, 2, none⟩ (.int .i64 k)) from ⟨i, m, k, rfl, below_set3 S6.out.below (by omega) _ _ _, by
      have hp := HP.out
      have hfe := hp.g.few
      have hfe2 := hp.k.few
      have hl := hp.l
      rw [← HE.out.1, ← HE.out.2]
      exact great_gap (d := 1) hp.g hp.k (by omega) hp.m hl (Nat.le_refl _) (by omega) HG.out⟩)
    go_wp2_with fail
    exact bodyPost_ret (v := .tuple #[.agg #[.bool i, .int .i64 m, .int .i64 k], .int .i64 0]) (by simp [results, Try.results60, go_sem, c0, c1, c2]) rfl HF.out

end Go.Proofs.Ytjjaaknjdmijbaa
