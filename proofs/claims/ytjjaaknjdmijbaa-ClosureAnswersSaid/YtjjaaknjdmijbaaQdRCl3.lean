/- Of the document's closure: common, grows. By the verifier's side. -/
import Derived.Test.YtjjaaknjdmijbaaQdRCl1
import Derived.Test.YtjjaaknjdmijbaaQdCurSToCurveNormalW
import Derived.BigRegion
namespace Go.Proofs.Ytjjaaknjdmijbaa
open Go.RowKit
set_option linter.unusedSimpArgs false
set_option linter.unusedVariables false

/-- Two curves in the call's first two boxes. -/
structure T9 (w : World) (a1 : Option Addr) (n1 cap1 : Nat) (z1 : List Int) (p1 : Nat) (i1 : Int) (a2 : Option Addr) (n2 cap2 : Nat) (z2 : List Int) (p2 : Nat) (i2 : Int) (u : World) : Prop where
  f : Bx u w.heap.size a1 n1 cap1 p1 i1 z1
  g : Bx u (w.heap.size + 1) a2 n2 cap2 p2 i2 z2
  below : Below w.heap.size w u
theorem T9.call {w u v : World} {a1 : Option Addr} {n1 cap1 : Nat} {z1 : List Int} {p1 : Nat} {i1 : Int} {a2 : Option Addr} {n2 cap2 : Nat} {z2 : List Int} {p2 : Nat} {i2 : Int} (k : T9 w a1 n1 cap1 z1 p1 i1 a2 n2 cap2 z2 p2 i2 u) (hb : Below u.heap.size u v) : T9 w a1 n1 cap1 z1 p1 i1 a2 n2 cap2 z2 p2 i2 v := ⟨k.f.under hb, k.g.under hb, k.below.trans (hb.mono k.below.size)⟩
theorem t9_new {w : World} {a1 : Option Addr} {n1 cap1 : Nat} {z1 : List Int} {p1 : Nat} {i1 : Int} {a2 : Option Addr} {n2 cap2 : Nat} {z2 : List Int} {p2 : Nat} {i2 : Int} (h1 : RowZ w a1 n1 cap1 z1) (h2 : RowZ w a2 n2 cap2 z2) {W : World} (hW : (w.alloc (.cells #[.slice a1 n1 cap1, .int .i64 p1, .int .i64 i1] 24)).alloc (.cells #[.slice a2 n2 cap2, .int .i64 p2, .int .i64 i2] 24) = W) : T9 w a1 n1 cap1 z1 p1 i1 a2 n2 cap2 z2 p2 i2 W := by
  subst hW
  have hB : Below w.heap.size w ((w.alloc (.cells #[.slice a1 n1 cap1, .int .i64 p1, .int .i64 i1] 24)).alloc (.cells #[.slice a2 n2 cap2, .int .i64 p2, .int .i64 i2] 24)) := ((Below.refl _ _).alloc (Nat.le_refl _) _).alloc (by simp) _
  exact ⟨⟨(Cur3.new w _ _ _ _).alloc _, h1.under hB⟩, ⟨Cur3.new2 w _ _ _ _ _, h2.under hB⟩, hB⟩
set_option maxRecDepth 100000 in
set_option maxHeartbeats 3200000 in
theorem grows9 (ad : Addr) (n cap : Nat) (zs : List Int) (p : Nat) (inc : Int) (g : Good zs p inc) (L : Nat) (hL : L ≤ 120) (v : Int) (hv : inc * ((L / p : Nat) : Int) = v) (b : Bool) (hb : b = true ↔ ¬ InfC zs) (w : World) (h : RowZ w (some ad) n cap zs) : Calls Try.prog 180 #[curV (some ad) n cap p inc, .int .i64 L] w (Says (.tuple #[.int .i64 v, .bool b]) w) := by
  have HB := Lib.hid (below_box (w := w) (.cells #[.slice (some ad) n cap, .int .i64 p, .int .i64 inc] 24))
  have hlen : zs.length = n := h.len
  have hn1 : 1 ≤ n := by have := g.p1; have := g.p3; omega
  have hn4 : n ≤ 400 := by have := g.few; omega
  obtain ⟨x, hx, hc⟩ := (h.under HB.out).at (n - 1) (by omega)
  cases hx
  obtain ⟨vl, hvl⟩ : ∃ v, zs.getD (n - 1) 0 = v := ⟨_, rfl⟩
  rw [hvl] at hc
  obtain ⟨nl, hnl⟩ : ∃ k, n - 1 = k := ⟨_, rfl⟩
  rw [hnl] at hc
  have hni : (n : Int) - 1 = (nl : Int) := by omega
  have hnw : IntKind.i64.wrap (nl : Int) = (nl : Int) := IntWalk.i64_in _ ⟨by omega, by omega⟩
  have hnlt : (nl : Int) < (n : Int) := by omega
  have hbe : (vl != 4611686018427387904) = b := by
    have e : InfC zs ↔ vl = 4611686018427387904 := by rw [← hvl]; unfold InfC infV; rw [hlen]
    cases b with
    | true => have : ¬ InfC zs := hb.1 rfl; rw [e] at this; simpa using this
    | false =>
      have : InfC zs := by
        by_cases k : InfC zs
        · exact k
        · have := hb.2 k; cases this
      rw [e] at this; simpa using this
  obtain ⟨c0, c1, c2, c3, c4, c5⟩ := Cur3.new w (.slice (some ad) n cap) (.int .i64 p) (.int .i64 inc) 24
  have hb' := grow_bd g hL
  rw [hv] at hb'
  obtain ⟨hb1, hb2⟩ := hb'
  have p1 := g.p1
  obtain ⟨k, hk⟩ : ∃ k, L / p = k := ⟨_, rfl⟩
  rw [hk] at hv
  have kb : k ≤ 120 := by rw [← hk]; exact Nat.le_trans (Nat.div_le_self _ _) hL
  have kq : (L : Int).tdiv (p : Int) = (k : Int) := by rw [Int.tdiv_eq_ediv_of_nonneg (by omega), ← hk]; exact Int.natCast_ediv _ _
  have kz : ¬ (p : Int) = 0 := by omega
  have kn : ¬ p = 0 := by omega
  have kd : (L : Int) / (p : Int) = (k : Int) := by rw [← hk]; exact (Int.natCast_ediv _ _).symm
  have kw : IntKind.i64.wrap (k : Int) = (k : Int) := IntWalk.i64_in _ ⟨by omega, by omega⟩
  have vw : IntKind.i64.wrap (inc * (k : Int)) = v := by rw [hv]; exact IntWalk.i64_in _ ⟨by omega, by omega⟩
  have vw2 : IntKind.i64.wrap v = v := IntWalk.i64_in _ ⟨by omega, by omega⟩
  obtain ⟨W, hW⟩ : ∃ W, w.alloc (.cells #[.slice (some ad) n cap, .int .i64 p, .int .i64 inc] 24) = W := ⟨_, rfl⟩
  rw [hW] at c0 c1 c2 c3 c4 c5 HB hc
  clear hvl hnl hlen h
  go_enter Try.func180, Try.ntmps180
  go_upto_region 1 with fail
  try rw [hW]
  go_quiet (fail)
  go_wp2_with fail
  exact bodyPost_ret (v := .tuple #[.int .i64 v, .bool b]) (by simp [results, Try.results180, go_sem, hv, vw, vw2, hbe]) rfl ⟨rfl, HB.out.drewN _⟩

set_option maxRecDepth 100000 in
set_option maxHeartbeats 6400000 in
theorem rcommon9 (a1 : Option Addr) (n1 cap1 : Nat) (z1 : List Int) (p1 : Nat) (i1 : Int) (g1 : Good z1 p1 i1) (a2 : Option Addr) (n2 cap2 : Nat) (z2 : List Int) (p2 : Nat) (i2 : Int) (g2 : Good z2 p2 i2) (L F : Nat) (hL : comL p1 z2 p2 = L) (hF : horC z1 p1 z2 p2 L = F) (w : World) (h1 : RowZ w a1 n1 cap1 z1) (h2 : RowZ w a2 n2 cap2 z2) :
    Calls Try.prog 114 #[curV a1 n1 cap1 p1 i1, curV a2 n2 cap2 p2 i2] w (Says (.tuple #[.int .i64 L, .int .i64 F]) w) := by
  obtain ⟨W, hW⟩ : ∃ W, (w.alloc (.cells #[.slice a1 n1 cap1, .int .i64 p1, .int .i64 i1] 24)).alloc (.cells #[.slice a2 n2 cap2, .int .i64 p2, .int .i64 i2] 24) = W := ⟨_, rfl⟩
  have T0 := Lib.hid (t9_new h1 h2 hW)
  have l1 := h1.len; have l2 := h2.len
  have q1 := g1.p1; have q2 := g1.p2; have q3 := g1.p3; have q4 := g1.few
  have r1 := g2.p1; have r2 := g2.p2; have r3 := g2.p3; have r4 := g2.few
  have B1 := Lib.hid (show (p1 ≤ n1 ∧ n1 ≤ 100000) ∧ (p2 ≤ n2 ∧ n2 ≤ 100000) by omega)
  obtain ⟨ad, rfl, hc⟩ := h2.at (n2 - 1) (by omega)
  obtain ⟨vl, hvl⟩ : ∃ v, z2.getD (n2 - 1) 0 = v := ⟨_, rfl⟩
  rw [hvl] at hc
  obtain ⟨nl, hnl⟩ : ∃ k, n2 - 1 = k := ⟨_, rfl⟩
  have HC := Lib.hid (show W.cell? (ad.add nl) = some (.int .i64 vl) by
    obtain ⟨x, hx, hc'⟩ := T0.out.g.row.at (n2 - 1) (by omega)
    cases hx
    rw [← hnl, ← hvl]; exact hc')
  have hni : (n2 : Int) - 1 = (nl : Int) := by omega
  have hnw : IntKind.i64.wrap (nl : Int) = (nl : Int) := IntWalk.i64_in _ ⟨by omega, by omega⟩
  have hnlt : (nl : Int) < (n2 : Int) := by omega
  have hinf : InfC z2 ↔ vl = 4611686018427387904 := by rw [← hvl]; unfold InfC infV; rw [l2]
  obtain ⟨sa, hsa⟩ : ∃ v, n1 - p1 = v := ⟨_, rfl⟩
  obtain ⟨sb, hsb⟩ : ∃ v, n2 - p2 = v := ⟨_, rfl⟩
  have ia : ((n1 - p1 : Nat) : Int) = (sa : Int) := by omega
  have ib : ((n2 - p2 : Nat) : Int) = (sb : Int) := by omega
  have HI := Lib.hid (And.intro ia ib)
  have hsab : sa ≤ 400 ∧ sb ≤ 400 := by omega
  have hLb : 1 ≤ L ∧ L ≤ 14400 := by
    rw [← hL]
    refine ⟨comL_one q1 r1, ?_⟩
    by_cases hi : InfC z2
    · rw [comL_inf hi]; omega
    · rw [comL_fin hi]
      exact Nat.le_trans (Nat.mul_le_mul (Nat.div_le_self _ _) (Nat.le_refl _)) (Nat.le_trans (Nat.mul_le_mul q2 r2) (by omega))
  have hFe : max sa (2 * sb) + L + 1 = F := by rw [← hF]; unfold horC; rw [l1, l2, hsa, hsb]
  have HL := Lib.hid hL
  have HLL := Lib.hid (show ¬ InfC z2 → p1 / Nat.gcd p1 p2 * p2 = L from fun h => by rw [← hL, comL_fin h])
  have HLI := Lib.hid (show InfC z2 → L = 1 from fun h => by rw [← hL, comL_inf h])
  have HQ := Lib.hid (show (1 ≤ p1 ∧ p1 ≤ 1000) ∧ (1 ≤ p2 ∧ p2 ≤ 1000) by omega)
  obtain ⟨sd, hsd⟩ : ∃ k, 2 * sb = k := ⟨_, rfl⟩
  have hsdi : 2 * (sb : Int) = (sd : Int) := by omega
  have hsdw : IntKind.i64.wrap (sd : Int) = (sd : Int) := IntWalk.i64_in _ ⟨by omega, by omega⟩
  rw [hsd] at hFe
  have HW := Lib.hid hW
  have HNF := Lib.hid hinf
  have KS := Lib.hid (show ∀ u, T9 w a1 n1 cap1 z1 p1 i1 (some ad) n2 cap2 z2 p2 i2 u → (u.cell? ⟨w.heap.size, 0, none⟩ = some (.slice a1 n1 cap1) ∧ u.cell? ⟨w.heap.size, 1, none⟩ = some (.int .i64 p1) ∧ u.cell? ⟨w.heap.size, 2, none⟩ = some (.int .i64 i1)) ∧ (u.cell? ⟨w.heap.size + 1, 0, none⟩ = some (.slice (some ad) n2 cap2) ∧ u.cell? ⟨w.heap.size + 1, 1, none⟩ = some (.int .i64 p2) ∧ u.cell? ⟨w.heap.size + 1, 2, none⟩ = some (.int .i64 i2)) ∧ Hid (T9 w a1 n1 cap1 z1 p1 i1 (some ad) n2 cap2 z2 p2 i2 u) from fun u h => ⟨⟨h.f.box.c0, h.f.box.c1, h.f.box.c2⟩, ⟨h.g.box.c0, h.g.box.c1, h.g.box.c2⟩, h⟩)
  clear hW h1 h2 g1 g2 hsa hsb ia ib hvl hnl hc hL hF l1 l2 q1 q2 q3 q4 r1 r2 r3 r4 hinf
  go_enter Try.func114, Try.ntmps114
  go_upto_region 1 with fail
  try rw [HW.out]
  obtain ⟨c0, c1, c2, c3, c4, c5⟩ := T0.out.f.box
  obtain ⟨d0, d1, d2, d3, d4, d5⟩ := T0.out.g.box
  have hcl := HC.out
  by_cases hi : InfC z2
  · have hv : vl = 4611686018427387904 := HNF.out.1 hi
    subst hv
    obtain rfl : L = 1 := HLI.out hi
    go_upto_region 4 with fail
    clear c0 c1 c2 c3 c4 c5 d0 d1 d2 d3 d4 d5 hcl HC HLI HLL HNF
    have Q0 := Lib.hid (T0.out.call (Below.refl _ _).drew)
    clear T0
    by_cases hss : sa < sd
    · have hs1 : (sa : Int) < (sd : Int) := by omega
      have hs2 : ¬ (sd : Int) < (sa : Int) := by omega
      have hs3 : ¬ (sd : Int) ≤ (sa : Int) := by omega
      have hs4 : (sa : Int) ≤ (sd : Int) := by omega
      have hsum : (sd : Int) + 1 + 1 = (F : Int) := by omega
      have hw1 : IntKind.i64.wrap ((sd : Int) + 1) = (sd : Int) + 1 := IntWalk.i64_in _ ⟨by omega, by omega⟩
      have hw2 : IntKind.i64.wrap (F : Int) = (F : Int) := IntWalk.i64_in _ ⟨by omega, by omega⟩
      refine wp_region_keeps (fun u => (u.cell? ⟨w.heap.size, 0, none⟩ = some (.slice a1 n1 cap1) ∧ u.cell? ⟨w.heap.size, 1, none⟩ = some (.int .i64 p1) ∧ u.cell? ⟨w.heap.size, 2, none⟩ = some (.int .i64 i1)) ∧ (u.cell? ⟨w.heap.size + 1, 0, none⟩ = some (.slice (some ad) n2 cap2) ∧ u.cell? ⟨w.heap.size + 1, 1, none⟩ = some (.int .i64 p2) ∧ u.cell? ⟨w.heap.size + 1, 2, none⟩ = some (.int .i64 i2)) ∧ Hid (T9 w a1 n1 cap1 z1 p1 i1 (some ad) n2 cap2 z2 p2 i2 u)) 11 1 (by kernel_rfl) (by kernel_rfl) (KS.out _ Q0.out) (fun hHeld0 => ?_)
      refine wpAnyK_take (i := 0) (v := ?_) rfl (by kernel_rfl) (fun _ _ _ h => h) (Or.inl ⟨by rfl, ?_⟩) (by assumption) ?_
      rotate_left
      · (intro w hSw; (try dsimp only at hSw); go_simp; try with_reducible rfl)
      try simp only [Act.put, List.getElem_toArray, List.getElem_cons_zero, List.getElem_cons_succ, List.setIfInBounds_toArray, List.set_cons_zero, List.set_cons_succ]
      refine wpAnyK_take (i := 1) (v := ?_) rfl (by kernel_rfl) (fun _ _ _ h => h) (Or.inl ⟨by rfl, ?_⟩) (by assumption) ?_
      rotate_left
      · (intro w hSw; (try dsimp only at hSw); go_simp; try with_reducible rfl)
      try simp only [Act.put, List.getElem_toArray, List.getElem_cons_zero, List.getElem_cons_succ, List.setIfInBounds_toArray, List.set_cons_zero, List.set_cons_succ]
      refine wpAnyK_take (i := 3) (v := ?_) rfl (by kernel_rfl) (fun _ _ _ h => h) (Or.inl ⟨by rfl, ?_⟩) (by assumption) ?_
      rotate_left
      · (intro w hSw; (try dsimp only at hSw); go_simp; try with_reducible rfl)
      try simp only [Act.put, List.getElem_toArray, List.getElem_cons_zero, List.getElem_cons_succ, List.setIfInBounds_toArray, List.set_cons_zero, List.set_cons_succ]
      refine wpAnyK_take (i := 7) (v := ?_) rfl (by kernel_rfl) (fun _ _ _ h => h) (Or.inl ⟨by rfl, ?_⟩) (by assumption) ?_
      rotate_left
      · (intro w hSw; (try dsimp only at hSw); go_simp; try with_reducible rfl)
      try simp only [Act.put, List.getElem_toArray, List.getElem_cons_zero, List.getElem_cons_succ, List.setIfInBounds_toArray, List.set_cons_zero, List.set_cons_succ]
      refine wpAnyK_step (i := 2) rfl (by kernel_rfl) (fun K hK => ?_)
      go_simp
      with_reducible refine (start9 a1 n1 cap1 p1 i1 B1.out.1.1 B1.out.1.2 sa HI.out.1 _).mono ?_
      rintro e y1 ⟨rfl, hb⟩
      have Q1 := Lib.hid (Q0.out.call hb)
      clear hb
      refine hK.out _ _ (KS.out _ Q1.out) (fun hHeld1 => ?_)
      clear hK K hHeld0
      try simp only [Act.put, List.getElem_toArray, List.getElem_cons_zero, List.getElem_cons_succ, List.setIfInBounds_toArray, List.set_cons_zero, List.set_cons_succ]
      refine wpAnyK_step (i := 4) rfl (by kernel_rfl) (fun K hK => ?_)
      go_simp
      with_reducible refine (start9 (some ad) n2 cap2 p2 i2 B1.out.2.1 B1.out.2.2 sb HI.out.2 _).mono ?_
      rintro e y2 ⟨rfl, hb⟩
      have Q2 := Lib.hid (Q1.out.call hb)
      clear hb
      refine hK.out _ _ (KS.out _ Q2.out) (fun hHeld2 => ?_)
      clear hK K hHeld1
      try simp only [Act.put, List.getElem_toArray, List.getElem_cons_zero, List.getElem_cons_succ, List.setIfInBounds_toArray, List.set_cons_zero, List.set_cons_succ]
      refine wpAnyK_take (i := 5) (v := ?_) rfl (by kernel_rfl) (fun _ _ _ h => h) (Or.inl ⟨by rfl, ?_⟩) (by assumption) ?_
      rotate_left
      · (intro w hSw; (try dsimp only at hSw); go_simp; try with_reducible rfl)
      try simp only [Act.put, List.getElem_toArray, List.getElem_cons_zero, List.getElem_cons_succ, List.setIfInBounds_toArray, List.set_cons_zero, List.set_cons_succ]
      refine wpAnyK_take (i := 6) (v := ?_) rfl (by kernel_rfl) (fun _ _ _ h => h) (Or.inl ⟨by rfl, ?_⟩) (by assumption) ?_
      rotate_left
      · (intro w hSw; (try dsimp only at hSw); go_simp; try with_reducible rfl)
      try simp only [Act.put, List.getElem_toArray, List.getElem_cons_zero, List.getElem_cons_succ, List.setIfInBounds_toArray, List.set_cons_zero, List.set_cons_succ]
      refine wpAnyK_take (i := 8) (v := ?_) rfl (by kernel_rfl) (fun _ _ _ h => h) (Or.inl ⟨by rfl, ?_⟩) (by assumption) ?_
      rotate_left
      · (intro w hSw; (try dsimp only at hSw); go_simp; try with_reducible rfl)
      try simp only [Act.put, List.getElem_toArray, List.getElem_cons_zero, List.getElem_cons_succ, List.setIfInBounds_toArray, List.set_cons_zero, List.set_cons_succ]
      refine wpAnyK_take (i := 9) (v := ?_) rfl (by kernel_rfl) (fun _ _ _ h => h) (Or.inl ⟨by rfl, ?_⟩) (by assumption) ?_
      rotate_left
      · (intro w hSw; (try dsimp only at hSw); go_simp; try with_reducible rfl)
      try simp only [Act.put, List.getElem_toArray, List.getElem_cons_zero, List.getElem_cons_succ, List.setIfInBounds_toArray, List.set_cons_zero, List.set_cons_succ]
      refine wpAnyK_take (i := 10) (v := ?_) rfl (by kernel_rfl) (fun _ _ _ h => h) (Or.inl ⟨by rfl, ?_⟩) (by assumption) ?_
      rotate_left
      · (intro w hSw; (try dsimp only at hSw); go_simp; try with_reducible rfl)
      try simp only [Act.put, List.getElem_toArray, List.getElem_cons_zero, List.getElem_cons_succ, List.setIfInBounds_toArray, List.set_cons_zero, List.set_cons_succ]
      refine wpAnyK_done (by kernel_rfl) ?_
      simp only [List.drop_succ_cons, List.drop_zero]
      clear hHeld2
      go_wp2_with fail
      exact bodyPost_ret (v := .tuple #[.int .i64 1, .int .i64 F]) (by simp [results, Try.results114, go_sem, hsum, hw1, hw2, hs1, hsdi]) rfl ⟨by first | rfl | simp, Q2.out.below⟩
    · have hs1 : ¬ (sa : Int) < (sd : Int) := by omega
      have hs4 : (sd : Int) ≤ (sa : Int) := by omega
      have hsum : (sa : Int) + 1 + 1 = (F : Int) := by omega
      have hw1 : IntKind.i64.wrap ((sa : Int) + 1) = (sa : Int) + 1 := IntWalk.i64_in _ ⟨by omega, by omega⟩
      have hw2 : IntKind.i64.wrap (F : Int) = (F : Int) := IntWalk.i64_in _ ⟨by omega, by omega⟩
      refine wp_region_keeps (fun u => (u.cell? ⟨w.heap.size, 0, none⟩ = some (.slice a1 n1 cap1) ∧ u.cell? ⟨w.heap.size, 1, none⟩ = some (.int .i64 p1) ∧ u.cell? ⟨w.heap.size, 2, none⟩ = some (.int .i64 i1)) ∧ (u.cell? ⟨w.heap.size + 1, 0, none⟩ = some (.slice (some ad) n2 cap2) ∧ u.cell? ⟨w.heap.size + 1, 1, none⟩ = some (.int .i64 p2) ∧ u.cell? ⟨w.heap.size + 1, 2, none⟩ = some (.int .i64 i2)) ∧ Hid (T9 w a1 n1 cap1 z1 p1 i1 (some ad) n2 cap2 z2 p2 i2 u)) 11 1 (by kernel_rfl) (by kernel_rfl) (KS.out _ Q0.out) (fun hHeld0 => ?_)
      refine wpAnyK_take (i := 0) (v := ?_) rfl (by kernel_rfl) (fun _ _ _ h => h) (Or.inl ⟨by rfl, ?_⟩) (by assumption) ?_
      rotate_left
      · (intro w hSw; (try dsimp only at hSw); go_simp; try with_reducible rfl)
      try simp only [Act.put, List.getElem_toArray, List.getElem_cons_zero, List.getElem_cons_succ, List.setIfInBounds_toArray, List.set_cons_zero, List.set_cons_succ]
      refine wpAnyK_take (i := 1) (v := ?_) rfl (by kernel_rfl) (fun _ _ _ h => h) (Or.inl ⟨by rfl, ?_⟩) (by assumption) ?_
      rotate_left
      · (intro w hSw; (try dsimp only at hSw); go_simp; try with_reducible rfl)
      try simp only [Act.put, List.getElem_toArray, List.getElem_cons_zero, List.getElem_cons_succ, List.setIfInBounds_toArray, List.set_cons_zero, List.set_cons_succ]
      refine wpAnyK_take (i := 3) (v := ?_) rfl (by kernel_rfl) (fun _ _ _ h => h) (Or.inl ⟨by rfl, ?_⟩) (by assumption) ?_
      rotate_left
      · (intro w hSw; (try dsimp only at hSw); go_simp; try with_reducible rfl)
      try simp only [Act.put, List.getElem_toArray, List.getElem_cons_zero, List.getElem_cons_succ, List.setIfInBounds_toArray, List.set_cons_zero, List.set_cons_succ]
      refine wpAnyK_take (i := 7) (v := ?_) rfl (by kernel_rfl) (fun _ _ _ h => h) (Or.inl ⟨by rfl, ?_⟩) (by assumption) ?_
      rotate_left
      · (intro w hSw; (try dsimp only at hSw); go_simp; try with_reducible rfl)
      try simp only [Act.put, List.getElem_toArray, List.getElem_cons_zero, List.getElem_cons_succ, List.setIfInBounds_toArray, List.set_cons_zero, List.set_cons_succ]
      refine wpAnyK_step (i := 2) rfl (by kernel_rfl) (fun K hK => ?_)
      go_simp
      with_reducible refine (start9 a1 n1 cap1 p1 i1 B1.out.1.1 B1.out.1.2 sa HI.out.1 _).mono ?_
      rintro e y1 ⟨rfl, hb⟩
      have Q1 := Lib.hid (Q0.out.call hb)
      clear hb
      refine hK.out _ _ (KS.out _ Q1.out) (fun hHeld1 => ?_)
      clear hK K hHeld0
      try simp only [Act.put, List.getElem_toArray, List.getElem_cons_zero, List.getElem_cons_succ, List.setIfInBounds_toArray, List.set_cons_zero, List.set_cons_succ]
      refine wpAnyK_step (i := 4) rfl (by kernel_rfl) (fun K hK => ?_)
      go_simp
      with_reducible refine (start9 (some ad) n2 cap2 p2 i2 B1.out.2.1 B1.out.2.2 sb HI.out.2 _).mono ?_
      rintro e y2 ⟨rfl, hb⟩
      have Q2 := Lib.hid (Q1.out.call hb)
      clear hb
      refine hK.out _ _ (KS.out _ Q2.out) (fun hHeld2 => ?_)
      clear hK K hHeld1
      try simp only [Act.put, List.getElem_toArray, List.getElem_cons_zero, List.getElem_cons_succ, List.setIfInBounds_toArray, List.set_cons_zero, List.set_cons_succ]
      refine wpAnyK_take (i := 5) (v := ?_) rfl (by kernel_rfl) (fun _ _ _ h => h) (Or.inl ⟨by rfl, ?_⟩) (by assumption) ?_
      rotate_left
      · (intro w hSw; (try dsimp only at hSw); go_simp; try with_reducible rfl)
      try simp only [Act.put, List.getElem_toArray, List.getElem_cons_zero, List.getElem_cons_succ, List.setIfInBounds_toArray, List.set_cons_zero, List.set_cons_succ]
      refine wpAnyK_take (i := 6) (v := ?_) rfl (by kernel_rfl) (fun _ _ _ h => h) (Or.inl ⟨by rfl, ?_⟩) (by assumption) ?_
      rotate_left
      · (intro w hSw; (try dsimp only at hSw); go_simp; try with_reducible rfl)
      try simp only [Act.put, List.getElem_toArray, List.getElem_cons_zero, List.getElem_cons_succ, List.setIfInBounds_toArray, List.set_cons_zero, List.set_cons_succ]
      refine wpAnyK_take (i := 8) (v := ?_) rfl (by kernel_rfl) (fun _ _ _ h => h) (Or.inl ⟨by rfl, ?_⟩) (by assumption) ?_
      rotate_left
      · (intro w hSw; (try dsimp only at hSw); go_simp; try with_reducible rfl)
      try simp only [Act.put, List.getElem_toArray, List.getElem_cons_zero, List.getElem_cons_succ, List.setIfInBounds_toArray, List.set_cons_zero, List.set_cons_succ]
      refine wpAnyK_take (i := 9) (v := ?_) rfl (by kernel_rfl) (fun _ _ _ h => h) (Or.inl ⟨by rfl, ?_⟩) (by assumption) ?_
      rotate_left
      · (intro w hSw; (try dsimp only at hSw); go_simp; try with_reducible rfl)
      try simp only [Act.put, List.getElem_toArray, List.getElem_cons_zero, List.getElem_cons_succ, List.setIfInBounds_toArray, List.set_cons_zero, List.set_cons_succ]
      refine wpAnyK_take (i := 10) (v := ?_) rfl (by kernel_rfl) (fun _ _ _ h => h) (Or.inl ⟨by rfl, ?_⟩) (by assumption) ?_
      rotate_left
      · (intro w hSw; (try dsimp only at hSw); go_simp; try with_reducible rfl)
      try simp only [Act.put, List.getElem_toArray, List.getElem_cons_zero, List.getElem_cons_succ, List.setIfInBounds_toArray, List.set_cons_zero, List.set_cons_succ]
      refine wpAnyK_done (by kernel_rfl) ?_
      simp only [List.drop_succ_cons, List.drop_zero]
      clear hHeld2
      go_wp2_with fail
      exact bodyPost_ret (v := .tuple #[.int .i64 1, .int .i64 F]) (by simp [results, Try.results114, go_sem, hsum, hw1, hw2, hs1, hsdi]) rfl ⟨by first | rfl | simp, Q2.out.below⟩
  · have hv : (vl != 4611686018427387904) = true := by
      have : ¬ vl = 4611686018427387904 := fun e => hi (HNF.out.2 e)
      simpa using this
    have HLc := Lib.hid (HLL.out hi)
    go_upto_region 3 with fail
    go_wp2_with fail
    with_reducible refine (lcm_at p1 p2 L HLc.out HQ.out.1.1 HQ.out.1.2 HQ.out.2.1 HQ.out.2.2 _).mono ?_
    rintro e u3 ⟨rfl, m, rfl⟩
    have T1 := Lib.hid (T0.out.call ((Below.refl _ _).drewN m))
    clear T0 c0 c1 c2 c3 c4 c5 d0 d1 d2 d3 d4 d5 hcl HC HLI HLL HNF
    go_upto_region 4 with fail
    have Q0 := Lib.hid (T1.out.call (Below.refl _ _).drew)
    clear T1
    by_cases hss : sa < sd
    · have hs1 : (sa : Int) < (sd : Int) := by omega
      have hs2 : ¬ (sd : Int) < (sa : Int) := by omega
      have hs3 : ¬ (sd : Int) ≤ (sa : Int) := by omega
      have hs4 : (sa : Int) ≤ (sd : Int) := by omega
      have hsum : (sd : Int) + (L : Int) + 1 = (F : Int) := by omega
      have hw1 : IntKind.i64.wrap ((sd : Int) + (L : Int)) = (sd : Int) + (L : Int) := IntWalk.i64_in _ ⟨by omega, by omega⟩
      have hw2 : IntKind.i64.wrap (F : Int) = (F : Int) := IntWalk.i64_in _ ⟨by omega, by omega⟩
      refine wp_region_keeps (fun u => (u.cell? ⟨w.heap.size, 0, none⟩ = some (.slice a1 n1 cap1) ∧ u.cell? ⟨w.heap.size, 1, none⟩ = some (.int .i64 p1) ∧ u.cell? ⟨w.heap.size, 2, none⟩ = some (.int .i64 i1)) ∧ (u.cell? ⟨w.heap.size + 1, 0, none⟩ = some (.slice (some ad) n2 cap2) ∧ u.cell? ⟨w.heap.size + 1, 1, none⟩ = some (.int .i64 p2) ∧ u.cell? ⟨w.heap.size + 1, 2, none⟩ = some (.int .i64 i2)) ∧ Hid (T9 w a1 n1 cap1 z1 p1 i1 (some ad) n2 cap2 z2 p2 i2 u)) 11 1 (by kernel_rfl) (by kernel_rfl) (KS.out _ Q0.out) (fun hHeld0 => ?_)
      refine wpAnyK_take (i := 0) (v := ?_) rfl (by kernel_rfl) (fun _ _ _ h => h) (Or.inl ⟨by rfl, ?_⟩) (by assumption) ?_
      rotate_left
      · (intro w hSw; (try dsimp only at hSw); go_simp; try with_reducible rfl)
      try simp only [Act.put, List.getElem_toArray, List.getElem_cons_zero, List.getElem_cons_succ, List.setIfInBounds_toArray, List.set_cons_zero, List.set_cons_succ]
      refine wpAnyK_take (i := 1) (v := ?_) rfl (by kernel_rfl) (fun _ _ _ h => h) (Or.inl ⟨by rfl, ?_⟩) (by assumption) ?_
      rotate_left
      · (intro w hSw; (try dsimp only at hSw); go_simp; try with_reducible rfl)
      try simp only [Act.put, List.getElem_toArray, List.getElem_cons_zero, List.getElem_cons_succ, List.setIfInBounds_toArray, List.set_cons_zero, List.set_cons_succ]
      refine wpAnyK_take (i := 3) (v := ?_) rfl (by kernel_rfl) (fun _ _ _ h => h) (Or.inl ⟨by rfl, ?_⟩) (by assumption) ?_
      rotate_left
      · (intro w hSw; (try dsimp only at hSw); go_simp; try with_reducible rfl)
      try simp only [Act.put, List.getElem_toArray, List.getElem_cons_zero, List.getElem_cons_succ, List.setIfInBounds_toArray, List.set_cons_zero, List.set_cons_succ]
      refine wpAnyK_take (i := 7) (v := ?_) rfl (by kernel_rfl) (fun _ _ _ h => h) (Or.inl ⟨by rfl, ?_⟩) (by assumption) ?_
      rotate_left
      · (intro w hSw; (try dsimp only at hSw); go_simp; try with_reducible rfl)
      try simp only [Act.put, List.getElem_toArray, List.getElem_cons_zero, List.getElem_cons_succ, List.setIfInBounds_toArray, List.set_cons_zero, List.set_cons_succ]
      refine wpAnyK_step (i := 2) rfl (by kernel_rfl) (fun K hK => ?_)
      go_simp
      with_reducible refine (start9 a1 n1 cap1 p1 i1 B1.out.1.1 B1.out.1.2 sa HI.out.1 _).mono ?_
      rintro e y1 ⟨rfl, hb⟩
      have Q1 := Lib.hid (Q0.out.call hb)
      clear hb
      refine hK.out _ _ (KS.out _ Q1.out) (fun hHeld1 => ?_)
      clear hK K hHeld0
      try simp only [Act.put, List.getElem_toArray, List.getElem_cons_zero, List.getElem_cons_succ, List.setIfInBounds_toArray, List.set_cons_zero, List.set_cons_succ]
      refine wpAnyK_step (i := 4) rfl (by kernel_rfl) (fun K hK => ?_)
      go_simp
      with_reducible refine (start9 (some ad) n2 cap2 p2 i2 B1.out.2.1 B1.out.2.2 sb HI.out.2 _).mono ?_
      rintro e y2 ⟨rfl, hb⟩
      have Q2 := Lib.hid (Q1.out.call hb)
      clear hb
      refine hK.out _ _ (KS.out _ Q2.out) (fun hHeld2 => ?_)
      clear hK K hHeld1
      try simp only [Act.put, List.getElem_toArray, List.getElem_cons_zero, List.getElem_cons_succ, List.setIfInBounds_toArray, List.set_cons_zero, List.set_cons_succ]
      refine wpAnyK_take (i := 5) (v := ?_) rfl (by kernel_rfl) (fun _ _ _ h => h) (Or.inl ⟨by rfl, ?_⟩) (by assumption) ?_
      rotate_left
      · (intro w hSw; (try dsimp only at hSw); go_simp; try with_reducible rfl)
      try simp only [Act.put, List.getElem_toArray, List.getElem_cons_zero, List.getElem_cons_succ, List.setIfInBounds_toArray, List.set_cons_zero, List.set_cons_succ]
      refine wpAnyK_take (i := 6) (v := ?_) rfl (by kernel_rfl) (fun _ _ _ h => h) (Or.inl ⟨by rfl, ?_⟩) (by assumption) ?_
      rotate_left
      · (intro w hSw; (try dsimp only at hSw); go_simp; try with_reducible rfl)
      try simp only [Act.put, List.getElem_toArray, List.getElem_cons_zero, List.getElem_cons_succ, List.setIfInBounds_toArray, List.set_cons_zero, List.set_cons_succ]
      refine wpAnyK_take (i := 8) (v := ?_) rfl (by kernel_rfl) (fun _ _ _ h => h) (Or.inl ⟨by rfl, ?_⟩) (by assumption) ?_
      rotate_left
      · (intro w hSw; (try dsimp only at hSw); go_simp; try with_reducible rfl)
      try simp only [Act.put, List.getElem_toArray, List.getElem_cons_zero, List.getElem_cons_succ, List.setIfInBounds_toArray, List.set_cons_zero, List.set_cons_succ]
      refine wpAnyK_take (i := 9) (v := ?_) rfl (by kernel_rfl) (fun _ _ _ h => h) (Or.inl ⟨by rfl, ?_⟩) (by assumption) ?_
      rotate_left
      · (intro w hSw; (try dsimp only at hSw); go_simp; try with_reducible rfl)
      try simp only [Act.put, List.getElem_toArray, List.getElem_cons_zero, List.getElem_cons_succ, List.setIfInBounds_toArray, List.set_cons_zero, List.set_cons_succ]
      refine wpAnyK_take (i := 10) (v := ?_) rfl (by kernel_rfl) (fun _ _ _ h => h) (Or.inl ⟨by rfl, ?_⟩) (by assumption) ?_
      rotate_left
      · (intro w hSw; (try dsimp only at hSw); go_simp; try with_reducible rfl)
      try simp only [Act.put, List.getElem_toArray, List.getElem_cons_zero, List.getElem_cons_succ, List.setIfInBounds_toArray, List.set_cons_zero, List.set_cons_succ]
      refine wpAnyK_done (by kernel_rfl) ?_
      simp only [List.drop_succ_cons, List.drop_zero]
      clear hHeld2
      go_wp2_with fail
      exact bodyPost_ret (v := .tuple #[.int .i64 (L : Int), .int .i64 F]) (by simp [results, Try.results114, go_sem, hsum, hw1, hw2, hs1, hsdi]) rfl ⟨by first | rfl | simp, Q2.out.below⟩
    · have hs1 : ¬ (sa : Int) < (sd : Int) := by omega
      have hs4 : (sd : Int) ≤ (sa : Int) := by omega
      have hsum : (sa : Int) + (L : Int) + 1 = (F : Int) := by omega
      have hw1 : IntKind.i64.wrap ((sa : Int) + (L : Int)) = (sa : Int) + (L : Int) := IntWalk.i64_in _ ⟨by omega, by omega⟩
      have hw2 : IntKind.i64.wrap (F : Int) = (F : Int) := IntWalk.i64_in _ ⟨by omega, by omega⟩
      refine wp_region_keeps (fun u => (u.cell? ⟨w.heap.size, 0, none⟩ = some (.slice a1 n1 cap1) ∧ u.cell? ⟨w.heap.size, 1, none⟩ = some (.int .i64 p1) ∧ u.cell? ⟨w.heap.size, 2, none⟩ = some (.int .i64 i1)) ∧ (u.cell? ⟨w.heap.size + 1, 0, none⟩ = some (.slice (some ad) n2 cap2) ∧ u.cell? ⟨w.heap.size + 1, 1, none⟩ = some (.int .i64 p2) ∧ u.cell? ⟨w.heap.size + 1, 2, none⟩ = some (.int .i64 i2)) ∧ Hid (T9 w a1 n1 cap1 z1 p1 i1 (some ad) n2 cap2 z2 p2 i2 u)) 11 1 (by kernel_rfl) (by kernel_rfl) (KS.out _ Q0.out) (fun hHeld0 => ?_)
      refine wpAnyK_take (i := 0) (v := ?_) rfl (by kernel_rfl) (fun _ _ _ h => h) (Or.inl ⟨by rfl, ?_⟩) (by assumption) ?_
      rotate_left
      · (intro w hSw; (try dsimp only at hSw); go_simp; try with_reducible rfl)
      try simp only [Act.put, List.getElem_toArray, List.getElem_cons_zero, List.getElem_cons_succ, List.setIfInBounds_toArray, List.set_cons_zero, List.set_cons_succ]
      refine wpAnyK_take (i := 1) (v := ?_) rfl (by kernel_rfl) (fun _ _ _ h => h) (Or.inl ⟨by rfl, ?_⟩) (by assumption) ?_
      rotate_left
      · (intro w hSw; (try dsimp only at hSw); go_simp; try with_reducible rfl)
      try simp only [Act.put, List.getElem_toArray, List.getElem_cons_zero, List.getElem_cons_succ, List.setIfInBounds_toArray, List.set_cons_zero, List.set_cons_succ]
      refine wpAnyK_take (i := 3) (v := ?_) rfl (by kernel_rfl) (fun _ _ _ h => h) (Or.inl ⟨by rfl, ?_⟩) (by assumption) ?_
      rotate_left
      · (intro w hSw; (try dsimp only at hSw); go_simp; try with_reducible rfl)
      try simp only [Act.put, List.getElem_toArray, List.getElem_cons_zero, List.getElem_cons_succ, List.setIfInBounds_toArray, List.set_cons_zero, List.set_cons_succ]
      refine wpAnyK_take (i := 7) (v := ?_) rfl (by kernel_rfl) (fun _ _ _ h => h) (Or.inl ⟨by rfl, ?_⟩) (by assumption) ?_
      rotate_left
      · (intro w hSw; (try dsimp only at hSw); go_simp; try with_reducible rfl)
      try simp only [Act.put, List.getElem_toArray, List.getElem_cons_zero, List.getElem_cons_succ, List.setIfInBounds_toArray, List.set_cons_zero, List.set_cons_succ]
      refine wpAnyK_step (i := 2) rfl (by kernel_rfl) (fun K hK => ?_)
      go_simp
      with_reducible refine (start9 a1 n1 cap1 p1 i1 B1.out.1.1 B1.out.1.2 sa HI.out.1 _).mono ?_
      rintro e y1 ⟨rfl, hb⟩
      have Q1 := Lib.hid (Q0.out.call hb)
      clear hb
      refine hK.out _ _ (KS.out _ Q1.out) (fun hHeld1 => ?_)
      clear hK K hHeld0
      try simp only [Act.put, List.getElem_toArray, List.getElem_cons_zero, List.getElem_cons_succ, List.setIfInBounds_toArray, List.set_cons_zero, List.set_cons_succ]
      refine wpAnyK_step (i := 4) rfl (by kernel_rfl) (fun K hK => ?_)
      go_simp
      with_reducible refine (start9 (some ad) n2 cap2 p2 i2 B1.out.2.1 B1.out.2.2 sb HI.out.2 _).mono ?_
      rintro e y2 ⟨rfl, hb⟩
      have Q2 := Lib.hid (Q1.out.call hb)
      clear hb
      refine hK.out _ _ (KS.out _ Q2.out) (fun hHeld2 => ?_)
      clear hK K hHeld1
      try simp only [Act.put, List.getElem_toArray, List.getElem_cons_zero, List.getElem_cons_succ, List.setIfInBounds_toArray, List.set_cons_zero, List.set_cons_succ]
      refine wpAnyK_take (i := 5) (v := ?_) rfl (by kernel_rfl) (fun _ _ _ h => h) (Or.inl ⟨by rfl, ?_⟩) (by assumption) ?_
      rotate_left
      · (intro w hSw; (try dsimp only at hSw); go_simp; try with_reducible rfl)
      try simp only [Act.put, List.getElem_toArray, List.getElem_cons_zero, List.getElem_cons_succ, List.setIfInBounds_toArray, List.set_cons_zero, List.set_cons_succ]
      refine wpAnyK_take (i := 6) (v := ?_) rfl (by kernel_rfl) (fun _ _ _ h => h) (Or.inl ⟨by rfl, ?_⟩) (by assumption) ?_
      rotate_left
      · (intro w hSw; (try dsimp only at hSw); go_simp; try with_reducible rfl)
      try simp only [Act.put, List.getElem_toArray, List.getElem_cons_zero, List.getElem_cons_succ, List.setIfInBounds_toArray, List.set_cons_zero, List.set_cons_succ]
      refine wpAnyK_take (i := 8) (v := ?_) rfl (by kernel_rfl) (fun _ _ _ h => h) (Or.inl ⟨by rfl, ?_⟩) (by assumption) ?_
      rotate_left
      · (intro w hSw; (try dsimp only at hSw); go_simp; try with_reducible rfl)
      try simp only [Act.put, List.getElem_toArray, List.getElem_cons_zero, List.getElem_cons_succ, List.setIfInBounds_toArray, List.set_cons_zero, List.set_cons_succ]
      refine wpAnyK_take (i := 9) (v := ?_) rfl (by kernel_rfl) (fun _ _ _ h => h) (Or.inl ⟨by rfl, ?_⟩) (by assumption) ?_
      rotate_left
      · (intro w hSw; (try dsimp only at hSw); go_simp; try with_reducible rfl)
      try simp only [Act.put, List.getElem_toArray, List.getElem_cons_zero, List.getElem_cons_succ, List.setIfInBounds_toArray, List.set_cons_zero, List.set_cons_succ]
      refine wpAnyK_take (i := 10) (v := ?_) rfl (by kernel_rfl) (fun _ _ _ h => h) (Or.inl ⟨by rfl, ?_⟩) (by assumption) ?_
      rotate_left
      · (intro w hSw; (try dsimp only at hSw); go_simp; try with_reducible rfl)
      try simp only [Act.put, List.getElem_toArray, List.getElem_cons_zero, List.getElem_cons_succ, List.setIfInBounds_toArray, List.set_cons_zero, List.set_cons_succ]
      refine wpAnyK_done (by kernel_rfl) ?_
      simp only [List.drop_succ_cons, List.drop_zero]
      clear hHeld2
      go_wp2_with fail
      exact bodyPost_ret (v := .tuple #[.int .i64 (L : Int), .int .i64 F]) (by simp [results, Try.results114, go_sem, hsum, hw1, hw2, hs1, hsdi]) rfl ⟨by first | rfl | simp, Q2.out.below⟩

end Go.Proofs.Ytjjaaknjdmijbaa
