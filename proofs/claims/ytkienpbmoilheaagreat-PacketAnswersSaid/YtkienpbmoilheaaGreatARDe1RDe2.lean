/- Of the document's deconvolution: start, finite, steeper, reach, gain, Most. By the verifier's side. -/
import Derived.Test.YtkienpbmoilheaaGreatARCo1
import Derived.Test.YtkienpbmoilheaaGreatARefA
import Derived.Test.YtkienpbmoilheaaGreatACurMToDecM
import Derived.Test.YtkienpbmoilheaaGreatAConER
import Derived.Test.YtkienpbmoilheaaGreatARRai
import Derived.Test.YtkienpbmoilheaaGreatADecD
namespace Go.Proofs.YtkienpbmoilheaaGreat
open Go.RowKit
set_option linter.unusedSimpArgs false
set_option linter.unusedVariables false

theorem start8 (a : Option Addr) (n cap p : Nat) (inc : Int) (hp : p ≤ n) (hn : n ≤ 100000) (v : Int) (hv : ((n - p : Nat) : Int) = v) (w : World) : Calls Tryz.prog 100 #[curV a n cap p inc] w (Says (.int .i64 v) w) := by
  subst hv
  have HB := Lib.hid (below_box (w := w) (.cells #[.slice a n cap, .int .i64 p, .int .i64 inc] 24))
  have k := Cur3.new w (.slice a n cap) (.int .i64 p) (.int .i64 inc) 24
  obtain ⟨c0, c1, c2, c3, c4, c5⟩ := k
  have e : (n : Int) - (p : Int) = ((n - p : Nat) : Int) := by omega
  have ew : IntKind.i64.wrap ((n - p : Nat) : Int) = ((n - p : Nat) : Int) := IntWalk.i64_in _ ⟨by omega, by omega⟩
  go_enter Tryz.func100, Tryz.ntmps100
  go_wp2_with fail
  go_ret
  exact ⟨by first | rfl | (rw [e]) | (simp [e]), HB.out⟩


theorem finite8 (a : Option Addr) (n cap : Nat) (zs : List Int) (p : Nat) (inc : Int) (hn : 1 ≤ n) (hn2 : n ≤ 100000) (b : Bool) (hb : b = true ↔ ¬ InfC zs) (w : World) (h : RowZ w a n cap zs) : Calls Tryz.prog 86 #[curV a n cap p inc] w (Says (.bool b) w) := by
  have HB := Lib.hid (below_box (w := w) (.cells #[.slice a n cap, .int .i64 p, .int .i64 inc] 24))
  have hrow := h.under (below_box (w := w) (.cells #[.slice a n cap, .int .i64 p, .int .i64 inc] 24))
  have hlen := h.len
  obtain ⟨j, hj⟩ : ∃ j, n = j + 1 := ⟨n - 1, by omega⟩
  obtain ⟨x, rfl, cl⟩ := hrow.cell j (by omega)
  obtain ⟨l, hl⟩ : ∃ l, zs.getD j 0 = l := ⟨_, rfl⟩
  rw [hl] at cl
  have hbl : b = true ↔ ¬ l = 4611686018427387904 := by rw [hb, infC7, hlen, show n - 1 = j by omega, hl]
  have hbe : (l != 4611686018427387904) = b := by
    cases b with
    | true => simpa using hbl.1 rfl
    | false =>
      have : l = 4611686018427387904 := Classical.byContradiction fun h => by have := hbl.2 h; cases this
      simp [this]
  have hbe2 : (l == 4611686018427387904) = !b := by rw [← hbe]; simp [bne]
  have q1 : (n : Int) - 1 = (j : Int) := by omega
  have q2 : (j : Int) < (n : Int) := by omega
  have q3 : j < n := by omega
  have q4 : IntKind.i64.wrap (j : Int) = (j : Int) := IntWalk.i64_in _ ⟨by omega, by omega⟩
  have k := Cur3.new w (.slice (some x) n cap) (.int .i64 p) (.int .i64 inc) 24
  obtain ⟨c0, c1, c2, c3, c4, c5⟩ := k
  clear hb hbl hl hj h hrow hlen
  go_enter Tryz.func86, Tryz.ntmps86
  go_wp2_with fail
  go_ret
  exact ⟨by first | rfl | simp [hbe] | simp [hbe2, bne], HB.out⟩


set_option maxRecDepth 100000 in
set_option maxHeartbeats 3200000 in
theorem reach8 (a1 : Option Addr) (n1 cap1 : Nat) (z1 : List Int) (p1 : Nat) (i1 : Int) (a2 : Option Addr) (n2 cap2 : Nat) (z2 : List Int) (p2 : Nat) (i2 : Int) (L : Nat) (d : Dec z1 p1 i1 z2 p2 i2 L) (v : Int) (hv : (reach z1 p1 z2 p2 L : Int) = v) (w : World) (h1 : RowZ w a1 n1 cap1 z1) (h2 : RowZ w a2 n2 cap2 z2) :
    Calls Tryz.prog 88 #[curV a1 n1 cap1 p1 i1, curV a2 n2 cap2 p2 i2, .int .i64 L] w (Says (.int .i64 v) w) := by
  have HV := Lib.hid hv
  clear hv
  have hL120 : L ≤ 120 := d.l
  obtain ⟨sa, hsa⟩ : ∃ v, n1 - p1 = v := ⟨_, rfl⟩
  obtain ⟨sb, hsb⟩ : ∃ v, n2 - p2 = v := ⟨_, rfl⟩
  have HSN := Lib.hid (show (((n1 - p1 : Nat) : Int) = sa ∧ p1 ≤ n1) ∧ (((n2 - p2 : Nat) : Int) = sb ∧ p2 ≤ n2) by
    have := h1.len; have := h2.len; have := d.g.p3; have := d.k.p3; exact ⟨⟨by omega, by omega⟩, by omega, by omega⟩)
  have hsab : sa ≤ 400 ∧ sb ≤ 400 := by have := h1.len; have := h2.len; have := d.g.few; have := d.k.few; omega
  obtain ⟨hsa4, hsb4⟩ := hsab
  have HRI := Lib.hid (show InfC z2 → (reach z1 p1 z2 p2 L : Int) = sb from fun h => by
    have := (d.k.tailI h).1; have := h2.len
    rw [reach_inf h]; omega)
  have HRF := Lib.hid (show ¬ InfC z2 → reach z1 p1 z2 p2 L = max sa sb + L from fun h => by
    rw [reach_fin h, h1.len, h2.len, hsa, hsb])
  clear hsa hsb
  have g1 := d.g
  have g2 := d.k
  have HD := Lib.hid d
  obtain ⟨W, hW⟩ : ∃ W, (w.alloc (.cells #[.slice a1 n1 cap1, .int .i64 p1, .int .i64 i1] 24)).alloc (.cells #[.slice a2 n2 cap2, .int .i64 p2, .int .i64 i2] 24) = W := ⟨_, rfl⟩
  have T0 := Lib.hid (c2_new h1 h2 hW)
  have HG := Lib.hid (And.intro g1 g2)
  have L1 := Lib.hid (show 1 ≤ n1 ∧ n1 ≤ 100000 by have := h1.len; have := g1.p1; have := g1.p3; have := g1.few; omega)
  have L2 := Lib.hid (show 1 ≤ n2 ∧ n2 ≤ 100000 by have := h2.len; have := g2.p1; have := g2.p3; have := g2.few; omega)
  have HW := Lib.hid hW
  clear d
  clear hW h1 h2 g1 g2
  go_enter Tryz.func88, Tryz.ntmps88
  go_upto_region 1 with fail
  try rw [HW.out]
  by_cases e2 : InfC z2
  · obtain ⟨c0, c1, c2, c3, c4, c5⟩ := T0.out.f.box
    obtain ⟨d0, d1, d2, d3, d4, d5⟩ := T0.out.g.box
    go_wp2_with fail
    clear c0 c1 c2 c3 c4 c5 d0 d1 d2 d3 d4 d5
    refine (finite8 a2 n2 cap2 z2 p2 i2 L2.out.1 L2.out.2 false ⟨fun h => (by cases h), fun h => absurd e2 h⟩ _ T0.out.g.row).mono ?_
    rintro e w101 ⟨rfl, hb⟩
    have T101 := Lib.hid (T0.out.call hb)
    clear hb
    obtain ⟨c0, c1, c2, c3, c4, c5⟩ := T101.out.f.box
    obtain ⟨d0, d1, d2, d3, d4, d5⟩ := T101.out.g.box
    go_wp2_with fail
    clear c0 c1 c2 c3 c4 c5 d0 d1 d2 d3 d4 d5
    refine (start8 a2 n2 cap2 p2 i2 HSN.out.2.2 L2.out.2 sb HSN.out.2.1 _).mono ?_
    rintro e w102 ⟨rfl, hb⟩
    have T102 := Lib.hid (T101.out.call hb)
    clear hb
    obtain rfl : v = (sb : Int) := by rw [← HV.out]; exact HRI.out e2
    go_wp2_with fail
    go_ret
    exact ⟨rfl, T102.out.below⟩
  · obtain ⟨c0, c1, c2, c3, c4, c5⟩ := T0.out.f.box
    obtain ⟨d0, d1, d2, d3, d4, d5⟩ := T0.out.g.box
    go_wp2_with fail
    clear c0 c1 c2 c3 c4 c5 d0 d1 d2 d3 d4 d5
    refine (finite8 a2 n2 cap2 z2 p2 i2 L2.out.1 L2.out.2 true ⟨fun _ => e2, fun _ => rfl⟩ _ T0.out.g.row).mono ?_
    rintro e w103 ⟨rfl, hb⟩
    have T103 := Lib.hid (T0.out.call hb)
    clear hb
    have Q0 := Lib.hid (T103.out.call (Below.refl _ _).drew)
    have KS := Lib.hid (show ∀ u, C2 w a1 n1 cap1 z1 p1 i1 a2 n2 cap2 z2 p2 i2 u → (u.cell? ⟨w.heap.size, 0, none⟩ = some (.slice a1 n1 cap1) ∧ u.cell? ⟨w.heap.size, 1, none⟩ = some (.int .i64 p1) ∧ u.cell? ⟨w.heap.size, 2, none⟩ = some (.int .i64 i1)) ∧ (u.cell? ⟨w.heap.size + 1, 0, none⟩ = some (.slice a2 n2 cap2) ∧ u.cell? ⟨w.heap.size + 1, 1, none⟩ = some (.int .i64 p2) ∧ u.cell? ⟨w.heap.size + 1, 2, none⟩ = some (.int .i64 i2)) ∧ Hid (C2 w a1 n1 cap1 z1 p1 i1 a2 n2 cap2 z2 p2 i2 u) from fun u h => ⟨⟨h.f.box.c0, h.f.box.c1, h.f.box.c2⟩, ⟨h.g.box.c0, h.g.box.c1, h.g.box.c2⟩, h⟩)
    go_upto_region 3 with fail
    obtain ⟨R, hR⟩ : ∃ R, max sa sb + L = R := ⟨_, rfl⟩
    have hRb : R ≤ 600 := by omega
    have hRw : IntKind.i64.wrap (R : Int) = (R : Int) := IntWalk.i64_in _ ⟨by omega, by omega⟩
    have HR := Lib.hid hR
    obtain rfl : v = (R : Int) := by rw [← HV.out, HRF.out e2, hR]
    clear hR
    by_cases hss : sa < sb
    · have hs1 : (sa : Int) < (sb : Int) := by omega
      have hs2 : ¬ (sb : Int) < (sa : Int) := by omega
      have hs3 : ¬ (sb : Int) ≤ (sa : Int) := by omega
      have hs4 : (sa : Int) ≤ (sb : Int) := by omega
      have hsum : (sb : Int) + (L : Int) = (R : Int) := by have := HR.out; omega
      refine wp_region_keeps (fun u => (u.cell? ⟨w.heap.size, 0, none⟩ = some (.slice a1 n1 cap1) ∧ u.cell? ⟨w.heap.size, 1, none⟩ = some (.int .i64 p1) ∧ u.cell? ⟨w.heap.size, 2, none⟩ = some (.int .i64 i1)) ∧ (u.cell? ⟨w.heap.size + 1, 0, none⟩ = some (.slice a2 n2 cap2) ∧ u.cell? ⟨w.heap.size + 1, 1, none⟩ = some (.int .i64 p2) ∧ u.cell? ⟨w.heap.size + 1, 2, none⟩ = some (.int .i64 i2)) ∧ Hid (C2 w a1 n1 cap1 z1 p1 i1 a2 n2 cap2 z2 p2 i2 u)) 7 1 (by kernel_rfl) (by kernel_rfl) (KS.out _ Q0.out) (fun hHeld0 => ?_)
      refine wpAnyK_take (i := 0) (v := ?_) rfl (by kernel_rfl) (fun _ _ _ h => h) (Or.inl ⟨by rfl, ?_⟩) (by assumption) ?_
      rotate_left
      · (intro w hSw; (try dsimp only at hSw); go_simp; try with_reducible rfl)
      try simp only [Act.put, List.getElem_toArray, List.getElem_cons_zero, List.getElem_cons_succ, List.setIfInBounds_toArray, List.set_cons_zero, List.set_cons_succ]
      refine wpAnyK_take (i := 2) (v := ?_) rfl (by kernel_rfl) (fun _ _ _ h => h) (Or.inl ⟨by rfl, ?_⟩) (by assumption) ?_
      rotate_left
      · (intro w hSw; (try dsimp only at hSw); go_simp; try with_reducible rfl)
      try simp only [Act.put, List.getElem_toArray, List.getElem_cons_zero, List.getElem_cons_succ, List.setIfInBounds_toArray, List.set_cons_zero, List.set_cons_succ]
      refine wpAnyK_take (i := 5) (v := ?_) rfl (by kernel_rfl) (fun _ _ _ h => h) (Or.inl ⟨by rfl, ?_⟩) (by assumption) ?_
      rotate_left
      · (intro w hSw; (try dsimp only at hSw); go_simp; try with_reducible rfl)
      try simp only [Act.put, List.getElem_toArray, List.getElem_cons_zero, List.getElem_cons_succ, List.setIfInBounds_toArray, List.set_cons_zero, List.set_cons_succ]
      refine wpAnyK_step (i := 1) rfl (by kernel_rfl) (fun K hK => ?_)
      go_simp
      with_reducible refine (start8 a1 n1 cap1 p1 i1 HSN.out.1.2 L1.out.2 sa HSN.out.1.1 _).mono ?_
      rintro e y1 ⟨rfl, hb⟩
      have Q1 := Lib.hid (Q0.out.call hb)
      clear hb
      refine hK.out _ _ (KS.out _ Q1.out) (fun hHeld1 => ?_)
      clear hK K hHeld0
      try simp only [Act.put, List.getElem_toArray, List.getElem_cons_zero, List.getElem_cons_succ, List.setIfInBounds_toArray, List.set_cons_zero, List.set_cons_succ]
      refine wpAnyK_step (i := 3) rfl (by kernel_rfl) (fun K hK => ?_)
      go_simp
      with_reducible refine (start8 a2 n2 cap2 p2 i2 HSN.out.2.2 L2.out.2 sb HSN.out.2.1 _).mono ?_
      rintro e y2 ⟨rfl, hb⟩
      have Q2 := Lib.hid (Q1.out.call hb)
      clear hb
      refine hK.out _ _ (KS.out _ Q2.out) (fun hHeld2 => ?_)
      clear hK K hHeld1
      try simp only [Act.put, List.getElem_toArray, List.getElem_cons_zero, List.getElem_cons_succ, List.setIfInBounds_toArray, List.set_cons_zero, List.set_cons_succ]
      refine wpAnyK_take (i := 4) (v := ?_) rfl (by kernel_rfl) (fun _ _ _ h => h) (Or.inl ⟨by rfl, ?_⟩) (by assumption) ?_
      rotate_left
      · (intro w hSw; (try dsimp only at hSw); go_simp; try with_reducible rfl)
      try simp only [Act.put, List.getElem_toArray, List.getElem_cons_zero, List.getElem_cons_succ, List.setIfInBounds_toArray, List.set_cons_zero, List.set_cons_succ]
      refine wpAnyK_take (i := 6) (v := ?_) rfl (by kernel_rfl) (fun _ _ _ h => h) (Or.inl ⟨by rfl, ?_⟩) (by assumption) ?_
      rotate_left
      · (intro w hSw; (try dsimp only at hSw); go_simp; try with_reducible rfl)
      try simp only [Act.put, List.getElem_toArray, List.getElem_cons_zero, List.getElem_cons_succ, List.setIfInBounds_toArray, List.set_cons_zero, List.set_cons_succ]
      refine wpAnyK_done (by kernel_rfl) ?_
      simp only [List.drop_succ_cons, List.drop_zero]
      clear hHeld2
      go_wp2_with fail
      go_ret
      exact ⟨by first | rfl | simp [hsum, hRw], Q2.out.below⟩
    · have hs1 : ¬ (sa : Int) < (sb : Int) := by omega
      have hs4 : (sb : Int) ≤ (sa : Int) := by omega
      have hsum : (sa : Int) + (L : Int) = (R : Int) := by have := HR.out; omega
      refine wp_region_keeps (fun u => (u.cell? ⟨w.heap.size, 0, none⟩ = some (.slice a1 n1 cap1) ∧ u.cell? ⟨w.heap.size, 1, none⟩ = some (.int .i64 p1) ∧ u.cell? ⟨w.heap.size, 2, none⟩ = some (.int .i64 i1)) ∧ (u.cell? ⟨w.heap.size + 1, 0, none⟩ = some (.slice a2 n2 cap2) ∧ u.cell? ⟨w.heap.size + 1, 1, none⟩ = some (.int .i64 p2) ∧ u.cell? ⟨w.heap.size + 1, 2, none⟩ = some (.int .i64 i2)) ∧ Hid (C2 w a1 n1 cap1 z1 p1 i1 a2 n2 cap2 z2 p2 i2 u)) 7 1 (by kernel_rfl) (by kernel_rfl) (KS.out _ Q0.out) (fun hHeld0 => ?_)
      refine wpAnyK_take (i := 0) (v := ?_) rfl (by kernel_rfl) (fun _ _ _ h => h) (Or.inl ⟨by rfl, ?_⟩) (by assumption) ?_
      rotate_left
      · (intro w hSw; (try dsimp only at hSw); go_simp; try with_reducible rfl)
      try simp only [Act.put, List.getElem_toArray, List.getElem_cons_zero, List.getElem_cons_succ, List.setIfInBounds_toArray, List.set_cons_zero, List.set_cons_succ]
      refine wpAnyK_take (i := 2) (v := ?_) rfl (by kernel_rfl) (fun _ _ _ h => h) (Or.inl ⟨by rfl, ?_⟩) (by assumption) ?_
      rotate_left
      · (intro w hSw; (try dsimp only at hSw); go_simp; try with_reducible rfl)
      try simp only [Act.put, List.getElem_toArray, List.getElem_cons_zero, List.getElem_cons_succ, List.setIfInBounds_toArray, List.set_cons_zero, List.set_cons_succ]
      refine wpAnyK_take (i := 5) (v := ?_) rfl (by kernel_rfl) (fun _ _ _ h => h) (Or.inl ⟨by rfl, ?_⟩) (by assumption) ?_
      rotate_left
      · (intro w hSw; (try dsimp only at hSw); go_simp; try with_reducible rfl)
      try simp only [Act.put, List.getElem_toArray, List.getElem_cons_zero, List.getElem_cons_succ, List.setIfInBounds_toArray, List.set_cons_zero, List.set_cons_succ]
      refine wpAnyK_step (i := 1) rfl (by kernel_rfl) (fun K hK => ?_)
      go_simp
      with_reducible refine (start8 a1 n1 cap1 p1 i1 HSN.out.1.2 L1.out.2 sa HSN.out.1.1 _).mono ?_
      rintro e y1 ⟨rfl, hb⟩
      have Q1 := Lib.hid (Q0.out.call hb)
      clear hb
      refine hK.out _ _ (KS.out _ Q1.out) (fun hHeld1 => ?_)
      clear hK K hHeld0
      try simp only [Act.put, List.getElem_toArray, List.getElem_cons_zero, List.getElem_cons_succ, List.setIfInBounds_toArray, List.set_cons_zero, List.set_cons_succ]
      refine wpAnyK_step (i := 3) rfl (by kernel_rfl) (fun K hK => ?_)
      go_simp
      with_reducible refine (start8 a2 n2 cap2 p2 i2 HSN.out.2.2 L2.out.2 sb HSN.out.2.1 _).mono ?_
      rintro e y2 ⟨rfl, hb⟩
      have Q2 := Lib.hid (Q1.out.call hb)
      clear hb
      refine hK.out _ _ (KS.out _ Q2.out) (fun hHeld2 => ?_)
      clear hK K hHeld1
      try simp only [Act.put, List.getElem_toArray, List.getElem_cons_zero, List.getElem_cons_succ, List.setIfInBounds_toArray, List.set_cons_zero, List.set_cons_succ]
      refine wpAnyK_take (i := 4) (v := ?_) rfl (by kernel_rfl) (fun _ _ _ h => h) (Or.inl ⟨by rfl, ?_⟩) (by assumption) ?_
      rotate_left
      · (intro w hSw; (try dsimp only at hSw); go_simp; try with_reducible rfl)
      try simp only [Act.put, List.getElem_toArray, List.getElem_cons_zero, List.getElem_cons_succ, List.setIfInBounds_toArray, List.set_cons_zero, List.set_cons_succ]
      refine wpAnyK_take (i := 6) (v := ?_) rfl (by kernel_rfl) (fun _ _ _ h => h) (Or.inl ⟨by rfl, ?_⟩) (by assumption) ?_
      rotate_left
      · (intro w hSw; (try dsimp only at hSw); go_simp; try with_reducible rfl)
      try simp only [Act.put, List.getElem_toArray, List.getElem_cons_zero, List.getElem_cons_succ, List.setIfInBounds_toArray, List.set_cons_zero, List.set_cons_succ]
      refine wpAnyK_done (by kernel_rfl) ?_
      simp only [List.drop_succ_cons, List.drop_zero]
      clear hHeld2
      go_wp2_with fail
      go_ret
      exact ⟨by first | rfl | simp [hsum, hRw], Q2.out.below⟩

set_option maxRecDepth 100000 in
set_option maxHeartbeats 3200000 in
theorem gain8 (a1 : Option Addr) (n1 cap1 : Nat) (z1 : List Int) (p1 : Nat) (i1 : Int) (a2 : Option Addr) (n2 cap2 : Nat) (z2 : List Int) (p2 : Nat) (i2 : Int) (L : Nat) (d : Dec z1 p1 i1 z2 p2 i2 L) (t u : Nat) (ht : t ≤ 2000) (hu : u < reach z1 p1 z2 p2 L) (v : Int) (hv : gainI (atC z1 p1 i1) (atC z2 p2 i2) t u = v) (w : World) (h1 : RowZ w a1 n1 cap1 z1) (h2 : RowZ w a2 n2 cap2 z2) :
    Calls Tryz.prog 89 #[curV a1 n1 cap1 p1 i1, curV a2 n2 cap2 p2 i2, .int .i64 t, .int .i64 u] w (Says (.int .i64 v) w) := by
  have hub : u ≤ 600 := by have := d.reach_le; omega
  have HGB := Lib.hid (d.second_bd hu)
  obtain ⟨s, hs⟩ : ∃ s, t + u = s := ⟨_, rfl⟩
  have hsi : (t : Int) + (u : Int) = (s : Int) := by omega
  have hsw : IntKind.i64.wrap (s : Int) = (s : Int) := IntWalk.i64_in _ ⟨by omega, by omega⟩
  have hsb : s ≤ 2600 := by omega
  obtain ⟨x, hx⟩ : ∃ x, atC z1 p1 i1 s = x := ⟨_, rfl⟩
  obtain ⟨y, hy⟩ : ∃ y, atC z2 p2 i2 u = y := ⟨_, rfl⟩
  have HX := Lib.hid (And.intro hx hy)
  have MX := Lib.hid (show Mid x by rw [← hx]; exact at_mid2 d.g (by omega))
  have HV := Lib.hid (show v = if x = infV then infV else x - y by exact by subst hx hy hs; exact hv.symm)
  clear hv hx hy hs
  have g1 := d.g
  have g2 := d.k
  have HD := Lib.hid d
  obtain ⟨W, hW⟩ : ∃ W, (w.alloc (.cells #[.slice a1 n1 cap1, .int .i64 p1, .int .i64 i1] 24)).alloc (.cells #[.slice a2 n2 cap2, .int .i64 p2, .int .i64 i2] 24) = W := ⟨_, rfl⟩
  have T0 := Lib.hid (c2_new h1 h2 hW)
  have HG := Lib.hid (And.intro g1 g2)
  have L1 := Lib.hid (show 1 ≤ n1 ∧ n1 ≤ 100000 by have := h1.len; have := g1.p1; have := g1.p3; have := g1.few; omega)
  have L2 := Lib.hid (show 1 ≤ n2 ∧ n2 ≤ 100000 by have := h2.len; have := g2.p1; have := g2.p3; have := g2.few; omega)
  have HW := Lib.hid hW
  clear d
  clear hW h1 h2 g1 g2
  go_enter Tryz.func89, Tryz.ntmps89
  go_upto_region 1 with fail
  try rw [HW.out]
  obtain ⟨c0, c1, c2, c3, c4, c5⟩ := T0.out.f.box
  obtain ⟨d0, d1, d2, d3, d4, d5⟩ := T0.out.g.box
  go_wp2_with fail
  clear c0 c1 c2 c3 c4 c5 d0 d1 d2 d3 d4 d5
  refine (rat_at a1 n1 cap1 z1 p1 i1 HD.out.g s s rfl (by omega) x HX.out.1 _ T0.out.f.row).mono ?_
  rintro e w1 ⟨rfl, hb⟩
  have T1 := Lib.hid (T0.out.call hb)
  clear hb
  by_cases hi : x = 4611686018427387904
  · have ti : (x == 4611686018427387904) = true := by simpa using hi
    obtain rfl : v = 4611686018427387904 := by rw [HV.out, if_pos hi]
    clear hi
    go_wp2_with fail
    go_ret
    exact ⟨rfl, T1.out.below⟩
  · have ti : (x == 4611686018427387904) = false := by simpa using hi
    have hxb : 0 ≤ x ∧ x ≤ 1125899906842624 := by
      rcases MX.out with h | h
      · exact absurd h hi
      · exact h
    obtain ⟨hx0, hx1⟩ := hxb
    have hy0 : 0 ≤ y ∧ y ≤ 1073741824 * ((u : Int) + 1) := by have := HGB.out; rw [HX.out.2] at this; exact this
    obtain ⟨hy0, hy1⟩ := hy0
    have hve : v = x - y := by rw [HV.out, if_neg hi]
    obtain rfl : v = x - y := hve
    have hvw : IntKind.i64.wrap (x - y) = x - y := IntWalk.i64_in _ ⟨by omega, by omega⟩
    clear hi
    obtain ⟨c0, c1, c2, c3, c4, c5⟩ := T1.out.f.box
    obtain ⟨d0, d1, d2, d3, d4, d5⟩ := T1.out.g.box
    go_wp2_with fail
    clear c0 c1 c2 c3 c4 c5 d0 d1 d2 d3 d4 d5
    refine (rat_at a2 n2 cap2 z2 p2 i2 HD.out.k u u rfl (by omega) y HX.out.2 _ T1.out.g.row).mono ?_
    rintro e w2 ⟨rfl, hb⟩
    have T2 := Lib.hid (T1.out.call hb)
    clear hb
    go_wp2_with fail
    go_ret
    exact ⟨rfl, T2.out.below⟩

set_option maxRecDepth 100000 in
set_option maxHeartbeats 3200000 in
theorem most8 (a1 : Option Addr) (n1 cap1 : Nat) (z1 : List Int) (p1 : Nat) (i1 : Int) (a2 : Option Addr) (n2 cap2 : Nat) (z2 : List Int) (p2 : Nat) (i2 : Int) (L : Nat) (d : Dec z1 p1 i1 z2 p2 i2 L) (t : Nat) (ht : t ≤ 2000) (v : Int) (hv : mostTo (atC z1 p1 i1) (atC z2 p2 i2) t (reach z1 p1 z2 p2 L) = v) (w : World) (h1 : RowZ w a1 n1 cap1 z1) (h2 : RowZ w a2 n2 cap2 z2) :
    Calls Tryz.prog 66 #[curV a1 n1 cap1 p1 i1, curV a2 n2 cap2 p2 i2, .int .i64 L, .int .i64 t] w (Says (.int .i64 v) w) := by
  obtain ⟨R, hR⟩ : ∃ R, reach z1 p1 z2 p2 L = R := ⟨_, rfl⟩
  rw [hR] at hv
  have hRb : R ≤ 519 := by rw [← hR]; exact d.reach_le
  have HRR := Lib.hid hR
  have HV := Lib.hid hv
  clear hR hv
  have g1 := d.g
  have g2 := d.k
  have HD := Lib.hid d
  obtain ⟨W, hW⟩ : ∃ W, (w.alloc (.cells #[.slice a1 n1 cap1, .int .i64 p1, .int .i64 i1] 24)).alloc (.cells #[.slice a2 n2 cap2, .int .i64 p2, .int .i64 i2] 24) = W := ⟨_, rfl⟩
  have T0 := Lib.hid (c2_new h1 h2 hW)
  have HG := Lib.hid (And.intro g1 g2)
  have L1 := Lib.hid (show 1 ≤ n1 ∧ n1 ≤ 100000 by have := h1.len; have := g1.p1; have := g1.p3; have := g1.few; omega)
  have L2 := Lib.hid (show 1 ≤ n2 ∧ n2 ≤ 100000 by have := h2.len; have := g2.p1; have := g2.p3; have := g2.few; omega)
  have HW := Lib.hid hW
  clear d
  clear hW h1 h2 g1 g2
  go_enter Tryz.func66, Tryz.ntmps66
  go_upto_region 1 with fail
  try rw [HW.out]
  go_wp2_with fail
  go_loopw [9, 10] (fun s9 s10 wx => ∃ k : Nat, s9 = .int .i64 (mostTo (atC z1 p1 i1) (atC z2 p2 i2) t k) ∧ s10 = .int .i64 k ∧ k ≤ R ∧ Hid (C2 w a1 n1 cap1 z1 p1 i1 a2 n2 cap2 z2 p2 i2 wx)) (fun _ s10 _ => R - (intOf s10).toNat)
  case atStart => exact ⟨0, rfl, by go_num, by omega, T0⟩
  case round =>
    clear T0
    obtain ⟨k, rfl, rfl, hk, T1⟩ := hrel
    obtain ⟨wk, rfl⟩ : ∃ u : World, u = wr := ⟨_, rfl⟩
    obtain ⟨c0, c1, c2, c3, c4, c5⟩ := T1.out.f.box
    obtain ⟨d0, d1, d2, d3, d4, d5⟩ := T1.out.g.box
    go_wp2_with fail
    clear c0 c1 c2 c3 c4 c5 d0 d1 d2 d3 d4 d5
    refine (reach8 a1 n1 cap1 z1 p1 i1 a2 n2 cap2 z2 p2 i2 L HD.out R (by rw [HRR.out]) _ T1.out.f.row T1.out.g.row).mono ?_
    rintro e w1 ⟨rfl, hb⟩
    have T2 := Lib.hid (T1.out.call hb)
    clear hb T1
    by_cases hlt : k < R
    · have hlt' : (k : Int) < (R : Int) := by omega
      obtain ⟨c, hc⟩ : ∃ c, mostTo (atC z1 p1 i1) (atC z2 p2 i2) t k = c := ⟨_, rfl⟩
      obtain ⟨y, hy⟩ : ∃ y, gainI (atC z1 p1 i1) (atC z2 p2 i2) t k = y := ⟨_, rfl⟩
      have HST := Lib.hid (show mostTo (atC z1 p1 i1) (atC z2 p2 i2) t (k + 1) = max c y by rw [← hc, ← hy]; rfl)
      have HY := Lib.hid hy
      rw [hc]
      clear hc hy
      obtain ⟨c0, c1, c2, c3, c4, c5⟩ := T2.out.f.box
      obtain ⟨d0, d1, d2, d3, d4, d5⟩ := T2.out.g.box
      go_wp2_with fail
      clear c0 c1 c2 c3 c4 c5 d0 d1 d2 d3 d4 d5
      refine (gain8 a1 n1 cap1 z1 p1 i1 a2 n2 cap2 z2 p2 i2 L HD.out t k ht (by rw [HRR.out]; exact hlt) y HY.out _ T2.out.f.row T2.out.g.row).mono ?_
      rintro e w2 ⟨rfl, hb⟩
      have T3 := Lib.hid (T2.out.call hb)
      clear hb
      rcases Int.lt_or_le c y with hm | hm
      · have hm' : ¬ y ≤ c := by omega
        have hm2 : ¬ y < c := by omega
        have hm3 : c ≤ y := by omega
        have em : max c y = y := by omega
        rw [em] at HST
        go_wp2_with fail
        go_roundw
        case rel => exact ⟨k + 1, by rw [HST.out], by go_num, by omega, T3⟩
        case measure => simp [intOf]; omega
      · have hm' : ¬ c < y := by omega
        have em : max c y = c := by omega
        rw [em] at HST
        go_wp2_with fail
        go_roundw
        case rel => exact ⟨k + 1, by rw [HST.out], by go_num, by omega, T3⟩
        case measure => simp [intOf]; omega
    · have hlt' : ¬ (k : Int) < (R : Int) := by omega
      obtain rfl : k = R := by omega
      rw [HV.out]
      go_wp2_with fail
      go_ret
      exact ⟨rfl, T2.out.below⟩

set_option maxRecDepth 100000 in
set_option maxHeartbeats 3200000 in
theorem steeper8 (a1 : Option Addr) (n1 cap1 : Nat) (z1 : List Int) (p1 : Nat) (i1 : Int) (a2 : Option Addr) (n2 cap2 : Nat) (z2 : List Int) (p2 : Nat) (i2 : Int) (L : Nat) (d : Dec z1 p1 i1 z2 p2 i2 L) (b : Bool) (hb : b = true ↔ Steep z1 p1 i1 z2 p2 i2 L) (w : World) (h1 : RowZ w a1 n1 cap1 z1) (h2 : RowZ w a2 n2 cap2 z2) :
    Calls Tryz.prog 65 #[curV a1 n1 cap1 p1 i1, curV a2 n2 cap2 p2 i2, .int .i64 L] w (Says (.bool b) w) := by
  have HBB := Lib.hid hb
  have hL120 : L ≤ 120 := d.l
  obtain ⟨k1, hk1⟩ : ∃ k, L / p1 = k := ⟨_, rfl⟩
  obtain ⟨k2, hk2⟩ : ∃ k, L / p2 = k := ⟨_, rfl⟩
  obtain ⟨x1, hx1⟩ : ∃ x, i1 * (k1 : Int) = x := ⟨_, rfl⟩
  obtain ⟨x2, hx2⟩ : ∃ x, i2 * (k2 : Int) = x := ⟨_, rfl⟩
  have B1 := Lib.hid (show 0 ≤ x1 ∧ x1 ≤ 128849018880 by have := grow_bd d.g hL120; rw [hk1, hx1] at this; exact this)
  have B2 := Lib.hid (show 0 ≤ x2 ∧ x2 ≤ 128849018880 by have := grow_bd d.k hL120; rw [hk2, hx2] at this; exact this)
  have HGI := Lib.hid (show (¬ InfC z1 → growI z1 p1 i1 L = x1) ∧ (¬ InfC z2 → growI z2 p2 i2 L = x2) from ⟨fun h => by rw [growI_mul h, hk1, hx1], fun h => by rw [growI_mul h, hk2, hx2]⟩)
  have q1 := d.g.p1
  have q2 := d.k.p1
  have HK := Lib.hid (show (((L : Int).tdiv (p1 : Int) = (k1 : Int) ∧ (L : Int) / (p1 : Int) = (k1 : Int)) ∧ ((L : Int).tdiv (p2 : Int) = (k2 : Int) ∧ (L : Int) / (p2 : Int) = (k2 : Int))) from
    ⟨⟨by rw [Int.tdiv_eq_ediv_of_nonneg (by omega), ← hk1]; exact Int.natCast_ediv _ _, by rw [← hk1]; exact (Int.natCast_ediv _ _).symm⟩, by rw [Int.tdiv_eq_ediv_of_nonneg (by omega), ← hk2]; exact Int.natCast_ediv _ _, by rw [← hk2]; exact (Int.natCast_ediv _ _).symm⟩)
  have HKW := Lib.hid (show (IntKind.i64.wrap (i1 * (k1 : Int)) = x1 ∧ IntKind.i64.wrap x1 = x1 ∧ IntKind.i64.wrap (k1 : Int) = (k1 : Int)) ∧ (IntKind.i64.wrap (i2 * (k2 : Int)) = x2 ∧ IntKind.i64.wrap x2 = x2 ∧ IntKind.i64.wrap (k2 : Int) = (k2 : Int)) from by
    have := B1.out; have := B2.out
    have : k1 ≤ 120 := by rw [← hk1]; exact Nat.le_trans (Nat.div_le_self _ _) hL120
    have : k2 ≤ 120 := by rw [← hk2]; exact Nat.le_trans (Nat.div_le_self _ _) hL120
    rw [hx1, hx2]
    have e1 : IntKind.i64.wrap x1 = x1 := IntWalk.i64_in _ ⟨by omega, by omega⟩
    have e2 : IntKind.i64.wrap x2 = x2 := IntWalk.i64_in _ ⟨by omega, by omega⟩
    exact ⟨⟨e1, e1, IntWalk.i64_in _ ⟨by omega, by omega⟩⟩, e2, e2, IntWalk.i64_in _ ⟨by omega, by omega⟩⟩)
  clear hb hk1 hk2 hx1 hx2
  have g1 := d.g
  have g2 := d.k
  have HD := Lib.hid d
  obtain ⟨W, hW⟩ : ∃ W, (w.alloc (.cells #[.slice a1 n1 cap1, .int .i64 p1, .int .i64 i1] 24)).alloc (.cells #[.slice a2 n2 cap2, .int .i64 p2, .int .i64 i2] 24) = W := ⟨_, rfl⟩
  have T0 := Lib.hid (c2_new h1 h2 hW)
  have HG := Lib.hid (And.intro g1 g2)
  have L1 := Lib.hid (show 1 ≤ n1 ∧ n1 ≤ 100000 by have := h1.len; have := g1.p1; have := g1.p3; have := g1.few; omega)
  have L2 := Lib.hid (show 1 ≤ n2 ∧ n2 ≤ 100000 by have := h2.len; have := g2.p1; have := g2.p3; have := g2.few; omega)
  have HW := Lib.hid hW
  clear d
  clear hW h1 h2 g1 g2
  go_enter Tryz.func65, Tryz.ntmps65
  go_upto_region 1 with fail
  try rw [HW.out]
  by_cases e1 : InfC z1
  · obtain ⟨c0, c1, c2, c3, c4, c5⟩ := T0.out.f.box
    obtain ⟨d0, d1, d2, d3, d4, d5⟩ := T0.out.g.box
    go_wp2_with fail
    clear c0 c1 c2 c3 c4 c5 d0 d1 d2 d3 d4 d5
    refine (finite8 a1 n1 cap1 z1 p1 i1 L1.out.1 L1.out.2 false ⟨fun h => (by cases h), fun h => absurd e1 h⟩ _ T0.out.f.row).mono ?_
    rintro e w104 ⟨rfl, hb⟩
    have T104 := Lib.hid (T0.out.call hb)
    clear hb
    obtain rfl : b = false := by
      cases b with
      | false => rfl
      | true => exact absurd (HBB.out.1 rfl) (fun h => h.1 e1)
    go_wp2_with fail
    go_ret
    exact ⟨rfl, T104.out.below⟩
  · obtain ⟨c0, c1, c2, c3, c4, c5⟩ := T0.out.f.box
    obtain ⟨d0, d1, d2, d3, d4, d5⟩ := T0.out.g.box
    go_wp2_with fail
    clear c0 c1 c2 c3 c4 c5 d0 d1 d2 d3 d4 d5
    refine (finite8 a1 n1 cap1 z1 p1 i1 L1.out.1 L1.out.2 true ⟨fun _ => e1, fun _ => rfl⟩ _ T0.out.f.row).mono ?_
    rintro e w105 ⟨rfl, hb⟩
    have T105 := Lib.hid (T0.out.call hb)
    clear hb
    by_cases e2 : InfC z2
    · obtain ⟨c0, c1, c2, c3, c4, c5⟩ := T105.out.f.box
      obtain ⟨d0, d1, d2, d3, d4, d5⟩ := T105.out.g.box
      go_wp2_with fail
      clear c0 c1 c2 c3 c4 c5 d0 d1 d2 d3 d4 d5
      refine (finite8 a2 n2 cap2 z2 p2 i2 L2.out.1 L2.out.2 false ⟨fun h => (by cases h), fun h => absurd e2 h⟩ _ T105.out.g.row).mono ?_
      rintro e w106 ⟨rfl, hb⟩
      have T106 := Lib.hid (T105.out.call hb)
      clear hb
      obtain rfl : b = false := by
        cases b with
        | false => rfl
        | true => exact absurd (HBB.out.1 rfl) (fun h => h.2.1 e2)
      go_wp2_with fail
      go_ret
      exact ⟨rfl, T106.out.below⟩
    · obtain ⟨c0, c1, c2, c3, c4, c5⟩ := T105.out.f.box
      obtain ⟨d0, d1, d2, d3, d4, d5⟩ := T105.out.g.box
      go_wp2_with fail
      clear c0 c1 c2 c3 c4 c5 d0 d1 d2 d3 d4 d5
      refine (finite8 a2 n2 cap2 z2 p2 i2 L2.out.1 L2.out.2 true ⟨fun _ => e2, fun _ => rfl⟩ _ T105.out.g.row).mono ?_
      rintro e w107 ⟨rfl, hb⟩
      have T107 := Lib.hid (T105.out.call hb)
      clear hb
      obtain ⟨c0, c1, c2, c3, c4, c5⟩ := T107.out.f.box
      obtain ⟨d0, d1, d2, d3, d4, d5⟩ := T107.out.g.box
      go_wp2_with fail
      clear c0 c1 c2 c3 c4 c5 d0 d1 d2 d3 d4 d5
      have r1 := B1.out
      have r2 := B2.out
      refine (rslopes a1 n1 cap1 p1 i1 a2 n2 cap2 p2 i2 L k1 k2 x1 x2 HK.out.1.1 (by omega) (by omega) HK.out.1.2 HKW.out.1.1 HKW.out.1.2.1 HKW.out.1.2.2 HK.out.2.1 (by omega) (by omega) HK.out.2.2 HKW.out.2.1 HKW.out.2.2.1 HKW.out.2.2.2 r1 r2 _).mono ?_
      rintro e w9 ⟨rfl, hb⟩
      have T9 := Lib.hid (T107.out.call hb)
      clear hb r1 r2
      by_cases hgt : 0 < x1 - x2
      · obtain rfl : b = true := HBB.out.2 ⟨e1, e2, by rw [HGI.out.1 e1, HGI.out.2 e2]; omega⟩
        go_wp2_with fail
        go_ret
        exact ⟨by first | rfl | (simp; omega), T9.out.below⟩
      · obtain rfl : b = false := by
          cases b with
          | false => rfl
          | true =>
            have h := (HBB.out.1 rfl).2.2
            rw [HGI.out.1 e1, HGI.out.2 e2] at h; omega
        go_wp2_with fail
        go_ret
        exact ⟨by first | rfl | (simp; omega), T9.out.below⟩

end Go.Proofs.YtkienpbmoilheaaGreat

namespace Go.Proofs.YtkienpbmoilheaaGreat
open Go.RowKit
set_option linter.unusedSimpArgs false
set_option linter.unusedVariables false

set_option maxRecDepth 100000 in
set_option maxHeartbeats 3200000 in
theorem pair8 (a1 : Option Addr) (n1 cap1 : Nat) (z1 : List Int) (p1 : Nat) (i1 : Int) (g1 : Good z1 p1 i1) (a2 : Option Addr) (n2 cap2 : Nat) (z2 : List Int) (p2 : Nat) (i2 : Int) (g2 : Good z2 p2 i2) (h0 : atC z2 p2 i2 0 = 0) (L : Nat) (hL : LcmN z1 p1 i1 z2 p2 i2 L) (l c : Int) (hl : l = if 120 < L then 0 else (L : Int)) (hc : c = if 120 < L then 3 else 0) (w : World) (h1 : RowZ w a1 n1 cap1 z1) (h2 : RowZ w a2 n2 cap2 z2) :
    Calls Tryz.prog 64 #[curV a1 n1 cap1 p1 i1, curV a2 n2 cap2 p2 i2] w (GivesPair z1 p1 i1 z2 p2 i2 l c w) := by
  obtain ⟨W, hW⟩ : ∃ W, (((w.alloc (.cells #[.slice a1 n1 cap1, .int .i64 p1, .int .i64 i1] 24)).alloc (.cells #[.slice a2 n2 cap2, .int .i64 p2, .int .i64 i2] 24)).alloc (.cells #[.slice none 0 0, .int .i64 0, .int .i64 0] 24)).alloc (.cells #[.slice none 0 0, .int .i64 0, .int .i64 0] 24) = W := ⟨_, rfl⟩
  obtain ⟨⟨hB, hWs⟩, kf, kg, ka, kb⟩ := boxes4 w a1 n1 cap1 p1 i1 a2 n2 cap2 p2 i2 hW
  have HB := Lib.hid hB
  have KA := Lib.hid ka
  have KB := Lib.hid kb
  have HR := Lib.hid (And.intro (h1.under hB) (h2.under hB))
  have HG := Lib.hid (And.intro g1 g2)
  have HC := Lib.hid (And.intro hl hc)
  have HL := Lib.hid hL
  have H0 := Lib.hid h0
  have HS := Lib.hid hWs
  have hW1 := hW
  obtain ⟨s, hs⟩ : ∃ s, w.heap.size = s := ⟨_, rfl⟩
  have HSS := Lib.hid hs
  obtain ⟨m0, m1, m2, m3, m4, m5⟩ := kf
  obtain ⟨u0, u1, u2, u3, u4, u5⟩ := kg
  rw [hs] at m0 m1 m2 m3 m4 m5 u0 u1 u2 u3 u4 u5
  clear h1 h2 hB ka kb g1 g2 hL hW hl hc hWs h0
  go_enter Tryz.func64, Tryz.ntmps64
  go_wp2_with fail
  try rw [hW1]
  clear hW1 m0 m1 m2 m3 m4 m5 u0 u1 u2 u3 u4 u5
  refine (rpair_any a1 n1 cap1 z1 p1 i1 HG.out.1 a2 n2 cap2 z2 p2 i2 HG.out.2 L HL.out l c HC.out.1 HC.out.2 _ HR.out.1 HR.out.2).mono ?_
  rintro e v1 ⟨b1, m1, c1, y1, q1, j1, b2, m2, c2, y2, q2, j2, rfl, hb, hr1, hr2, hn1, hn2, hx1, hx2⟩
  obtain ⟨w3, hw⟩ : ∃ W, (v1.alloc (.cells #[.slice b1 m1 c1, .int .i64 q1, .int .i64 j1] 24)).alloc (.cells #[.slice b2 m2 c2, .int .i64 q2, .int .i64 j2] 24) = W := ⟨_, rfl⟩
  have hz1 : Below v1.heap.size v1 w3 := by rw [← hw]; exact ((Below.refl _ _).alloc (Nat.le_refl _) _).alloc (by simp) _
  have hz : Below W.heap.size W w3 := hb.trans (hz1.mono hb.size)
  have KA3 := Lib.hid (KA.out.below hz)
  have KB3 := Lib.hid (KB.out.below hz)
  have HB3 := Lib.hid (show Below s w w3 by rw [← hs]; exact HB.out.trans (hz.mono HB.out.size))
  have X13 := Lib.hid (show Bx w3 v1.heap.size b1 m1 c1 q1 j1 y1 by rw [← hw]; exact (Bx.new hr1).under (box_below _ _))
  have X23 := Lib.hid (show Bx w3 (v1.heap.size + 1) b2 m2 c2 q2 j2 y2 by
    rw [← hw]
    have := Bx.new (p := q2) (inc := j2) (hr2.under (box_below v1 (.cells #[.slice b1 m1 c1, .int .i64 q1, .int .i64 j1] 24)))
    simpa using this)
  have F12 := Lib.hid (show (∀ x, b1 = some x → s + 4 ≤ x.block) ∧ (∀ x, b2 = some x → s + 4 ≤ x.block) from ⟨fun x h => by have := hx1 x h; have := HS.out; omega, fun x h => by have := hx2 x h; have := HS.out; omega⟩)
  have N12 := Lib.hid (And.intro hn1 hn2)
  have S1 := Lib.hid (show s + 4 ≤ v1.heap.size by have := hb.size; have := HS.out; omega)
  have hy0 : y2.getD 0 0 = 0 := by
    have e := hn2.good HG.out.2
    have := (hn2.values HG.out.2 0).trans H0.out
    rwa [atC_lt (by have := e.p1; have := e.p3; omega)] at this
  have hm2 : 1 ≤ m2 := by have e := hn2.good HG.out.2; have := e.p1; have := e.p3; have := hr2.len; omega
  have HW3 := Lib.hid hw
  obtain ⟨A, hA⟩ : ∃ A, A = s + 2 := ⟨_, rfl⟩
  obtain ⟨B, hBB⟩ : ∃ B, B = A + 1 := ⟨_, rfl⟩
  have HP := Lib.hid (show GivesPair z1 p1 i1 z2 p2 i2 l c w _ _ from pair_post (A := A) (B := B) hs HB3.out hA (by omega) X13.out.row X23.out.row F12.out.1 F12.out.2 N12.out.1 N12.out.2)
  obtain ⟨x, rfl, cv⟩ := X23.out.row.cell 0 (by omega)
  rw [hy0, addr07] at cv
  obtain ⟨g0, g1, g2, g3, g4, g5⟩ := X13.out.box
  obtain ⟨d0, d1, d2, d3, d4, d5⟩ := X23.out.box
  obtain ⟨k0, k1, k2, k3, k4, k5⟩ := KA3.out
  obtain ⟨r0, r1, r2, r3, r4, r5⟩ := KB3.out
  have l1 : s + 4 ≤ v1.heap.size := S1.out
  rw [hs, ← hA] at k0 k1 k2 k3 k4 k5
  rw [hs, show s + 3 = B by omega] at r0 r1 r2 r3 r4 r5
  have t1 : ¬ A = B := by omega
  have t1' : ¬ B = A := by omega
  have t2 : ¬ A = v1.heap.size := by omega
  have t3 : ¬ B = v1.heap.size := by omega
  have t4 : ¬ A = v1.heap.size + 1 := by omega
  have t5 : ¬ B = v1.heap.size + 1 := by omega
  have t2' : ¬ v1.heap.size = A := by omega
  have t3' : ¬ v1.heap.size = B := by omega
  have t4' : ¬ v1.heap.size + 1 = A := by omega
  have t5' : ¬ v1.heap.size + 1 = B := by omega
  have z0 : (0 : Int) < (m2 : Int) := by omega
  have z1' : 0 < m2 := by omega
  have HAB := Lib.hid (And.intro hA hBB)
  clear hb hr1 hr2 hn1 hn2 hx1 hx2 hw hz hz1 hy0
  by_cases h120 : 120 < L
  · obtain ⟨el, ec⟩ := HC.out
    rw [if_pos h120] at el ec
    subst el ec
    clear h120
    go_upto_region 2 with fail
    try rw [HW3.out]
    go_upto_region 4 with fail
    rw [← hA, ← hBB]
    clear hA hBB l1
    go_region
    go_wp2_with fail
    exact bodyPost_ret (v := .tuple #[curV b1 m1 c1 q1 j1, curV (some x) m2 c2 q2 j2, .int .i64 0, .int .i64 3]) (by simp [results, Tryz.results64, go_sem, k0, k1, k2, k3, k4, k5, r0, r1, r2, r3, r4, r5, t1, t1']) rfl HP.out
  · obtain ⟨el, ec⟩ := HC.out
    rw [if_neg h120] at el ec
    subst el ec
    clear h120
    go_upto_region 2 with fail
    try rw [HW3.out]
    go_upto_region 4 with fail
    rw [← hA, ← hBB]
    clear hA hBB l1
    go_region
    go_wp2_with fail
    exact bodyPost_ret (v := .tuple #[curV b1 m1 c1 q1 j1, curV (some x) m2 c2 q2 j2, .int .i64 (L : Int), .int .i64 0]) (by simp [results, Tryz.results64, go_sem, k0, k1, k2, k3, k4, k5, r0, r1, r2, r3, r4, r5, t1, t1']) rfl HP.out

theorem dec_some {z1 z2 : List Int} {p1 p2 : Nat} {i1 i2 : Int} {L : Nat} (d : Dec z1 p1 i1 z2 p2 i2 L) (hs : ¬ Steep z1 p1 i1 z2 p2 i2 L) (f1 : ¬ InfC z1) (t : Nat) : ¬ eDec z1 p1 i1 z2 p2 i2 t = none := fun h => by
  obtain ⟨x, hx, _⟩ := dec_fin d.g d.k d.h0 d.nk d.m hs f1 t
  rw [hx] at h; cases h
theorem dec_raw {z1 z2 : List Int} {p1 p2 : Nat} {i1 i2 : Int} {L : Nat} (d : Dec z1 p1 i1 z2 p2 i2 L) (hs : ¬ Steep z1 p1 i1 z2 p2 i2 L) : RawE (firsts (encF (eDec z1 p1 i1 z2 p2 i2)) z1.length) p1 i1 (eDec z1 p1 i1 z2 p2 i2) := by
  have g := d.g
  have h1 := g.p1; have h2 := g.p2; have h3 := g.p3; have h4 := g.few; have h5 := g.i0; have h6 := g.i1
  have hr := d.reach_le
  refine rawE_of (by omega) h1 (by omega) h3 (by omega) (fun t h => dec_up d.g d.k d.h0 t h) (fun t ht x hx => ?_) (fun hall => ?_) fun hex => ?_
  · have hv := d.val hs (t := t) (by omega)
    obtain ⟨u, hu, hux, hun⟩ := hv.2.1 x hx
    have e := encF_some hx
    rw [hv.1] at e
    have h0 := mostTo_nn (atC z1 p1 i1) (atC z2 p2 i2) t (reach z1 p1 z2 p2 L)
    have hb := d.second_bd hu
    rcases eC_cases d.g (t := t + u) (by omega) with ⟨_, e2⟩ | ⟨y, _, e2, k1, k2⟩
    · exact absurd e2 hun
    · omega
  · by_cases f1 : InfC z1
    · exact absurd (d.none_late f1 (t := z1.length - p1) (Nat.le_refl _)) (hall _)
    · exact d.shift hs f1 (g.per f1)
  · by_cases f1 : InfC z1
    · exact ⟨z1.length - p1, by omega, d.none_late f1 (Nat.le_refl _)⟩
    · obtain ⟨t, ht⟩ := hex
      exfalso
      exact absurd ht (dec_some d hs f1 t)

set_option maxRecDepth 100000 in
set_option maxHeartbeats 6400000 in
theorem rof8 (a1 : Option Addr) (n1 cap1 : Nat) (z1 : List Int) (p1 : Nat) (i1 : Int) (g1 : Good z1 p1 i1) (a2 : Option Addr) (n2 cap2 : Nat) (z2 : List Int) (p2 : Nat) (i2 : Int) (g2 : Good z2 p2 i2) (h0 : atC z2 p2 i2 0 = 0) (L : Nat) (hL : LcmN z1 p1 i1 z2 p2 i2 L) (hL2 : L ≤ 120) (w : World) (h1 : RowZ w a1 n1 cap1 z1) (h2 : RowZ w a2 n2 cap2 z2) :
    Calls Tryz.prog 41 #[curV a1 n1 cap1 p1 i1, curV a2 n2 cap2 p2 i2] w (GivesE (eDec z1 p1 i1 z2 p2 i2) w) := by
  obtain ⟨ii0, ihi, ihz0, ihz1, ihz2⟩ := info_parts info_int
  have H0 := Lib.hid h0
  clear h0
  have HG := Lib.hid (And.intro g1 g2)
  have HL := Lib.hid (And.intro hL hL2)
  obtain ⟨W, hW⟩ : ∃ W, ((w.alloc (.cells #[.slice a1 n1 cap1, .int .i64 p1, .int .i64 i1] 24)).alloc (.cells #[.slice a2 n2 cap2, .int .i64 p2, .int .i64 i2] 24)).alloc (.cells #[.slice none 0 0, .int .i64 0, .int .i64 0] 24) = W := ⟨_, rfl⟩
  obtain ⟨⟨hB, hWs⟩, k1, k2, kr⟩ := boxesB w a1 n1 cap1 p1 i1 a2 n2 cap2 p2 i2 hW
  have HB := Lib.hid hB
  have KR := Lib.hid kr
  have HR := Lib.hid (And.intro (h1.under hB) (h2.under hB))
  have HWS := Lib.hid hWs
  have hW1 := hW
  obtain ⟨m0, m1, m2, m3, m4, m5⟩ := k1
  obtain ⟨u0, u1, u2, u3, u4, u5⟩ := k2
  clear h1 h2 hB kr hW hWs g1 g2 hL hL2
  go_enter Tryz.func41, Tryz.ntmps41
  go_wp2_with fail
  try rw [hW1]
  clear hW1 m0 m1 m2 m3 m4 m5 u0 u1 u2 u3 u4 u5
  have hn120 : ¬ 120 < L := by have := HL.out.2; omega
  refine (pair8 a1 n1 cap1 z1 p1 i1 HG.out.1 a2 n2 cap2 z2 p2 i2 HG.out.2 H0.out L HL.out.1 L 0 (if_neg hn120).symm (if_neg hn120).symm _ HR.out.1 HR.out.2).mono ?_
  rintro e v1 ⟨b1, m1, c1, y1, q1, j1, b2, m2, c2, y2, q2, j2, rfl, hb, hr1, hr2, hn1, hn2, hx1, hx2⟩
  obtain ⟨W2, hw⟩ : ∃ W2, (v1.alloc (.cells #[.slice b1 m1 c1, .int .i64 q1, .int .i64 j1] 24)).alloc (.cells #[.slice b2 m2 c2, .int .i64 q2, .int .i64 j2] 24) = W2 := ⟨_, rfl⟩
  have hz : Below v1.heap.size v1 W2 := by rw [← hw]; exact ((Below.refl _ _).alloc (Nat.le_refl _) _).alloc (by simp) _
  have hWz : Below W.heap.size W W2 := hb.trans (hz.mono hb.size)
  have KR2 := Lib.hid (KR.out.below hWz)
  have HB2 := Lib.hid (HB.out.trans (hWz.mono HB.out.size))
  have XA := Lib.hid (show Bx W2 v1.heap.size b1 m1 c1 q1 j1 y1 by rw [← hw]; exact (Bx.new hr1).under (box_below _ _))
  have XB := Lib.hid (show Bx W2 (v1.heap.size + 1) b2 m2 c2 q2 j2 y2 by
    rw [← hw]
    have := Bx.new (p := q2) (inc := j2) (hr2.under (box_below v1 (.cells #[.slice b1 m1 c1, .int .i64 q1, .int .i64 j1] 24)))
    simpa using this)
  have GY := Lib.hid (And.intro (hn1.good HG.out.1) (hn2.good HG.out.2))
  have HN := Lib.hid (And.intro hn1 hn2)
  have hLL : q1 / Nat.gcd q1 q2 * q2 = L := by
    obtain ⟨u1, r1, k1, u2, r2, k2, n1, n2, e⟩ := HL.out.1
    obtain ⟨_, rfl, _⟩ := n1.canon HG.out.1 HG.out.1 hn1 (fun _ => rfl)
    obtain ⟨_, rfl, _⟩ := n2.canon HG.out.2 HG.out.2 hn2 (fun _ => rfl)
    exact e
  have HLC := Lib.hid (lcm_of GY.out.1.p1 GY.out.2.p1 hLL)
  have hs1 : w.heap.size + 3 ≤ v1.heap.size := by have := hb.size; have := HWS.out; omega
  have HEQ := Lib.hid (And.intro (hn1.eform HG.out.1).2.1 (hn2.eform HG.out.2).2.1)
  have hw1 := hw
  obtain ⟨A, hA⟩ : ∃ A, v1.heap.size = A := ⟨_, rfl⟩
  rw [hA] at XA XB hs1
  obtain ⟨g0, g1, g2, g3, g4, g5⟩ := XA.out.box
  obtain ⟨d0, d1, d2, d3, d4, d5⟩ := XB.out.box
  have hL1 := HLC.out.one
  have hL120 := HL.out.2
  have q11 := GY.out.1.p1
  have q12 := GY.out.1.p2
  have q21 := GY.out.2.p1
  have q22 := GY.out.2.p2
  have bj1 := GY.out.1.i0
  have bj1' := GY.out.1.i1
  have bj2 := GY.out.2.i0
  have bj2' := GY.out.2.i1
  clear hb hr1 hr2 hn1 hn2 hx1 hx2 hw hz hWz hLL hn120
  have HD := Lib.hid (show Dec y1 q1 j1 y2 q2 j2 L from ⟨GY.out.1, GY.out.2, (HN.out.2.values HG.out.2 0).trans H0.out, (HN.out.1.eform HG.out.1).2.2, (HN.out.2.eform HG.out.2).2.2, HLC.out.mult, hL120⟩)
  have HEE := Lib.hid (show (eDec y1 q1 j1 y2 q2 j2) = eDec z1 p1 i1 z2 p2 i2 by unfold eDec; rw [funext HEQ.out.1, funext HEQ.out.2])
  have HW2 := Lib.hid hw1
  have hlen1 : y1.length = m1 := XA.out.row.len
  have HL1 := Lib.hid hlen1
  have hm1 : m1 ≤ 400 := by have := GY.out.1.few; omega
  have hm1q : q1 ≤ m1 := by have := GY.out.1.p3; omega
  clear g0 g1 g2 g3 g4 g5 d0 d1 d2 d3 d4 d5 hlen1
  obtain ⟨g0, g1', g2', g3, g4, g5⟩ := XA.out.box
  obtain ⟨d0, d1, d2, d3, d4, d5⟩ := XB.out.box
  clear hw1
  go_upto_region 4 with fail
  try rw [HW2.out]
  try rw [hA]
  obtain ⟨sb, hsb⟩ : ∃ b : Bool, (b = true ↔ Steep y1 q1 j1 y2 q2 j2 L) := by
    by_cases h : Steep y1 q1 j1 y2 q2 j2 L
    · exact ⟨true, ⟨fun _ => h, fun _ => rfl⟩⟩
    · exact ⟨false, ⟨fun q => (by cases q), fun k => absurd k h⟩⟩
  have HSB := Lib.hid hsb
  clear hsb
  go_wp2_with fail
  clear g0 g1' g2' g3 g4 g5 d0 d1 d2 d3 d4 d5
  refine (steeper8 b1 m1 c1 y1 q1 j1 b2 m2 c2 y2 q2 j2 L HD.out sb HSB.out _ XA.out.row XB.out.row).mono ?_
  rintro e W5 ⟨rfl, hb⟩
  have YA := Lib.hid (XA.out.under hb)
  have YB := Lib.hid (XB.out.under hb)
  have KR5 := Lib.hid (KR2.out.below hb)
  have HB5 := Lib.hid (HB2.out.trans (hb.mono HB2.out.size))
  have SZ5 := Lib.hid (show w.heap.size + 3 ≤ W5.heap.size by have := HB5.out.size; have := YA.out.box.lt; omega)
  clear hb XA XB KR2 HB2
  cases sb with
  | true =>
    have hst := HSB.out.1 rfl
    have HNO := Lib.hid (show (eDec y1 q1 j1 y2 q2 j2) = fun _ => none from funext fun t => dec_steep GY.out.1 GY.out.2 HD.out.h0 HLC.out.mult hst t)
    have hz : Below W5.heap.size W5 (W5.alloc (.cells #[.int .i64 4611686018427387904] 3)) := below_box _
    have R6 := rowZ_lit W5 [4611686018427387904] 3 (by decide) (by decide)
    have HP := Lib.hid (GivesE.postOf (E := eDec z1 p1 i1 z2 p2 i2) (b := w.heap.size + 2) (w2 := (W5.alloc (.cells #[.int .i64 4611686018427387904] 3))) (p := 1) (inc := 0) (HB5.out.trans (hz.mono HB5.out.size)) (by omega) (show RowZ (W5.alloc (.cells #[.int .i64 4611686018427387904] 3)) (some ⟨W5.heap.size, 0, none⟩) 1 1 [4611686018427387904] from R6) (fun x e => by cases e; have := SZ5.out; show w.heap.size + 2 < W5.heap.size; omega) (by rw [← HEE.out, HNO.out]; exact inf_form))
    obtain ⟨r0, r1, r2, r3, r4, r5⟩ := KR5.out.alloc (.cells #[.int .i64 4611686018427387904] 3)
    clear hst R6 hz
    go_wp2_with fail
    exact bodyPost_ret (v := .tuple #[curV (some ⟨W5.heap.size, 0, none⟩) 1 1 (1 : Nat) 0, .int .i64 0]) (by simp [results, Tryz.results41, go_sem, r0, r1, r2]) rfl HP.out
  | false =>
    have HNS := Lib.hid (show ¬ Steep y1 q1 j1 y2 q2 j2 L from fun h => by have := HSB.out.2 h; cases this)
    obtain ⟨f, hf⟩ : ∃ f, encF (eDec y1 q1 j1 y2 q2 j2) = f := ⟨_, rfl⟩
    have HF := Lib.hid hf
    have HVAL := Lib.hid (show ∀ t, t ≤ 100000 → mostTo (atC y1 q1 j1) (atC y2 q2 j2) t (reach y1 q1 y2 q2 L) = f t from fun t ht => by rw [← hf]; exact (HD.out.val HNS.out ht).1.symm)
    have HIN := Lib.hid (show ∀ t, t < m1 → In64 (f t) from fun t ht => by
      have h := HD.out.most_mid (t := t) (by omega) (Nat.le_refl _)
      rw [HVAL.out t (by omega)] at h
      rcases h with h | h
      · rw [h]; exact ⟨by decide, by decide⟩
      · exact ⟨by omega, by omega⟩)
    have L0 := Lib.hid (Ap.start W5 (q1 : Int) j1 f)
    have KS8 := Lib.hid (show ∀ (sv : Value) (k : Nat) (u : World), Ap W5 (q1 : Int) j1 f k sv u → ((u.cell? ⟨A, 0, none⟩ = some (.slice b1 m1 c1) ∧ u.cell? ⟨A, 1, none⟩ = some (.int .i64 q1) ∧ u.cell? ⟨A, 2, none⟩ = some (.int .i64 j1)) ∧ (u.cell? ⟨A + 1, 0, none⟩ = some (.slice b2 m2 c2) ∧ u.cell? ⟨A + 1, 1, none⟩ = some (.int .i64 q2) ∧ u.cell? ⟨A + 1, 2, none⟩ = some (.int .i64 j2)) ∧ u.cell? ⟨W5.heap.size, 0, none⟩ = some sv) from fun sv k u hu => by
      have x := YA.out.box.below hu.below
      have y := YB.out.box.below hu.below
      exact ⟨⟨x.c0, x.c1, x.c2⟩, ⟨y.c0, y.c1, y.c2⟩, hu.out.c0⟩)
    obtain ⟨g0, g1', g2', g3, g4, g5⟩ := YA.out.box
    clear hf
    go_wp2_with fail
    clear g0 g1' g2' g3 g4 g5
    go_loopw [11] (fun sl wx => ∃ (k : Nat) (sv : Value), sl = .int .i64 k ∧ k ≤ m1 ∧ Hid (Ap W5 (q1 : Int) j1 f k sv wx)) (fun sl _ => m1 - (intOf sl).toNat)
    case atStart => exact ⟨0, .slice none 0 0, by go_num, by omega, L0⟩
    case round =>
      clear L0
      obtain ⟨k, sv, rfl, hk, HS⟩ := hrel
      obtain ⟨wk, rfl⟩ : ∃ u : World, u = wr := ⟨_, rfl⟩
      obtain ⟨g0, g1', g2', g3, g4, g5⟩ := YA.out.box.below HS.out.below
      by_cases hlt : k < m1
      · have hlt' : (k : Int) < (m1 : Int) := by omega
        obtain ⟨vv, hvv⟩ : ∃ v, f k = v := ⟨_, rfl⟩
        have HVV := Lib.hid hvv
        have HS0 := Lib.hid HS.out.drew
        clear hvv
        go_upto_region 10 with fail
        clear g0 g1' g2' g3 g4 g5
        refine wp_region_keeps (fun u => ((u.cell? ⟨A, 0, none⟩ = some (.slice b1 m1 c1) ∧ u.cell? ⟨A, 1, none⟩ = some (.int .i64 q1) ∧ u.cell? ⟨A, 2, none⟩ = some (.int .i64 j1)) ∧ (u.cell? ⟨A + 1, 0, none⟩ = some (.slice b2 m2 c2) ∧ u.cell? ⟨A + 1, 1, none⟩ = some (.int .i64 q2) ∧ u.cell? ⟨A + 1, 2, none⟩ = some (.int .i64 j2)) ∧ u.cell? ⟨W5.heap.size, 0, none⟩ = some sv)) 8 3 (by kernel_rfl) (by kernel_rfl) (KS8.out _ _ _ HS0.out) (fun hHeld0 => ?_)
        refine wpAnyK_take (i := 0) (v := ?_) rfl (by kernel_rfl) (fun _ _ _ h => h) (Or.inl ⟨by rfl, ?_⟩) (by assumption) ?_
        rotate_left
        · (intro w hSw; (try dsimp only at hSw); go_simp; try with_reducible rfl)
        try simp only [Act.put, List.getElem_toArray, List.getElem_cons_zero, List.getElem_cons_succ, List.setIfInBounds_toArray, List.set_cons_zero, List.set_cons_succ]
        refine wpAnyK_take (i := 1) (v := ?_) rfl (by kernel_rfl) (fun _ _ _ h => h) (Or.inl ⟨by rfl, ?_⟩) (by assumption) ?_
        rotate_left
        · (intro w hSw; (try dsimp only at hSw); go_simp; try with_reducible rfl)
        try simp only [Act.put, List.getElem_toArray, List.getElem_cons_zero, List.getElem_cons_succ, List.setIfInBounds_toArray, List.set_cons_zero, List.set_cons_succ]
        refine wpAnyK_take (i := 2) (v := ?_) rfl (by kernel_rfl) (fun _ _ _ h => h) (Or.inl ⟨by rfl, ?_⟩) (by assumption) ?_
        rotate_left
        · (intro w hSw; (try dsimp only at hSw); go_simp; try with_reducible rfl)
        try simp only [Act.put, List.getElem_toArray, List.getElem_cons_zero, List.getElem_cons_succ, List.setIfInBounds_toArray, List.set_cons_zero, List.set_cons_succ]
        refine wpAnyK_take (i := 3) (v := ?_) rfl (by kernel_rfl) (fun _ _ _ h => h) (Or.inl ⟨by rfl, ?_⟩) (by assumption) ?_
        rotate_left
        · (intro w hSw; (try dsimp only at hSw); go_simp; try with_reducible rfl)
        try simp only [Act.put, List.getElem_toArray, List.getElem_cons_zero, List.getElem_cons_succ, List.setIfInBounds_toArray, List.set_cons_zero, List.set_cons_succ]
        refine wpAnyK_take (i := 4) (v := ?_) rfl (by kernel_rfl) (fun _ _ _ h => h) (Or.inl ⟨by rfl, ?_⟩) (by assumption) ?_
        rotate_left
        · (intro w hSw; (try dsimp only at hSw); go_simp; try with_reducible rfl)
        try simp only [Act.put, List.getElem_toArray, List.getElem_cons_zero, List.getElem_cons_succ, List.setIfInBounds_toArray, List.set_cons_zero, List.set_cons_succ]
        refine wpAnyK_take (i := 5) (v := ?_) rfl (by kernel_rfl) (fun _ _ _ h => h) (Or.inl ⟨by rfl, ?_⟩) (by assumption) ?_
        rotate_left
        · (intro w hSw; (try dsimp only at hSw); go_simp; try with_reducible rfl)
        try simp only [Act.put, List.getElem_toArray, List.getElem_cons_zero, List.getElem_cons_succ, List.setIfInBounds_toArray, List.set_cons_zero, List.set_cons_succ]
        refine wpAnyK_step (i := 6) rfl (by kernel_rfl) (fun K hK => ?_)
        go_simp
        with_reducible refine (most8 b1 m1 c1 y1 q1 j1 b2 m2 c2 y2 q2 j2 L HD.out k (by omega) vv (by rw [HVAL.out k (by omega)]; exact HVV.out) _ (YA.out.row.under HS0.out.below) (YB.out.row.under HS0.out.below)).mono ?_
        rintro e ux ⟨rfl, hb⟩
        have HS1 := Lib.hid (HS0.out.under hb)
        clear hb
        refine hK.out _ _ (KS8.out _ _ _ HS1.out) (fun hHeld1 => ?_)
        clear hK K hHeld0
        try simp only [Act.put, List.getElem_toArray, List.getElem_cons_zero, List.getElem_cons_succ, List.setIfInBounds_toArray, List.set_cons_zero, List.set_cons_succ]
        obtain ⟨w7, hw7⟩ : ∃ u : World, u = ux := ⟨_, rfl⟩
        refine wpAnyK_step (i := 7) rfl (by kernel_rfl) (fun K hK => ?_)
        go_simp
        refine hK.out _ _ (KS8.out _ _ _ (HS1.out.alloc _)) (fun hHeldb => ?_)
        clear hK K hHeld1
        try simp only [Act.put, List.getElem_toArray, List.getElem_cons_zero, List.getElem_cons_succ, List.setIfInBounds_toArray, List.set_cons_zero, List.set_cons_succ]
        refine wpAnyK_done (by kernel_rfl) ?_
        simp only [List.drop_succ_cons, List.drop_zero]
        clear hHeldb
        subst hw7
        have L7 := HS1
        have N8 : Hid (∀ j u, [Value.int .i64 vv][j]? = some u → (w7.alloc (.cells #[.int .i64 vv] 3)).cell? ((⟨w7.heap.size, 0, none⟩ : Addr).add j) = some u) := Lib.hid (World.news_of_block (cs := #[.int .i64 vv]) (t := 3) (fr := (0, 0)) (heap_alloc_new w7 _))
        have L8 := Lib.hid (L7.out.alloc (.cells #[.int .i64 vv] 3))
        have hlt8 : W5.heap.size + 1 ≤ w7.heap.size := L7.out.out.lt
        generalize w7.alloc (.cells #[.int .i64 vv] 3) = w8 at L8 N8 ⊢
        go_wp2_with (at_builtin; refine wpList_append_own _ rfl _ _ 22 rfl (W5.heap.size + 1) 3 ii0 (.int .i64 0) 1 8 Tryz.underlying22 ihi ihz0 ihz1 ihz2 rfl (by decide) _ _ _ rfl L8.out.own ⟨w7.heap.size, 0, none⟩ 1 1 [.int .i64 vv] rfl rfl N8.out ?c2 ?c3 ?c4 ?c5 ?_)
        case c2 => intro u hu; simp at hu; subst hu; rfl
        case c3 => unfold maxLen; omega
        case c4 => omega
        case c5 => exact L8.out.out.lt
        intro v' w9 hown' hgrow _
        obtain ⟨g9, cap9, rfl, hg9, hg9'⟩ := hown'.form (Nat.succ_pos _)
        obtain ⟨lnext, kout⟩ := L8.out.push hown' hgrow HVV.out
        have L10 := Lib.hid lnext
        clear hown' hgrow lnext
        obtain ⟨o0, o1, o2, o3, o4, o5⟩ := kout
        go_wp2_with fail
        go_roundw
        case rel => exact ⟨k + 1, _, by go_num, by omega, L10⟩
        case measure => simp [intOf]; omega
      · have hlt' : ¬ (k : Int) < (m1 : Int) := by omega
        obtain rfl : k = m1 := by omega
        obtain ⟨g, cap, rfl, RL, XL⟩ := HS.out.row (by have := GY.out.1.p1; omega) (by omega) HIN.out
        have RLAST := Lib.hid RL
        have HBL := Lib.hid (HB5.out.trans (HS.out.below.mono HB5.out.size))
        have KRL := Lib.hid (KR5.out.below HS.out.below)
        have HRAW := Lib.hid (show RawE (firsts f k) q1 j1 (eDec y1 q1 j1 y2 q2 j2) by
          have h := dec_raw HD.out HNS.out
          rw [HF.out, HL1.out] at h
          exact h)
        obtain ⟨o0, o1, o2, o3, o4, o5⟩ := HS.out.out
        clear RL
        go_wp2_with fail
        clear o0 o1 o2 o3 o4 o5 g0 g1' g2' g3 g4 g5
        refine (rmade_ok _ _ _ _ _ _ HRAW.out _ RLAST.out).mono ?_
        rintro e v9 ⟨hb, ⟨a9, n9, cap9, z9, p9, i9, rfl, hr, hf, hx⟩ | ⟨rfl, hno⟩⟩
        · have HP := Lib.hid (GivesE.post (E := eDec z1 p1 i1 z2 p2 i2) (b := w.heap.size + 2) HBL.out (by omega) KRL.out.lt hb hr hx (by rw [← HEE.out]; exact hf))
          obtain ⟨r0, r1, r2, r3, r4, r5⟩ := KRL.out.below hb
          clear hb hr hf hx
          go_wp2_with fail
          exact bodyPost_ret (v := .tuple #[curV a9 n9 cap9 p9 i9, .int .i64 0]) (by simp [results, Tryz.results41, go_sem, r0, r1, r2]) rfl HP.out
        · have HP := Lib.hid (GivesE.postNo (E := eDec z1 p1 i1 z2 p2 i2) (b := w.heap.size + 2) HBL.out (by omega) hb (by rw [← HEE.out]; exact hno))
          obtain ⟨r0, r1, r2, r3, r4, r5⟩ := KRL.out.below hb
          clear hb hno
          go_wp2_with fail
          exact bodyPost_ret (v := .tuple #[curV none 0 0 0 0, .int .i64 3]) (by simp [results, Tryz.results41, go_sem, r0, r1, r2]) rfl HP.out

end Go.Proofs.YtkienpbmoilheaaGreat
