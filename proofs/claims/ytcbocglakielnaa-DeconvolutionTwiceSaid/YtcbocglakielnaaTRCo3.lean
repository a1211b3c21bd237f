/- Of the document's convolution: below, at whatever third curve. By the verifier's side. -/
import Derived.Test.YtcbocglakielnaaTRCo1
import Derived.Test.YtcbocglakielnaaTRefA
namespace Go.Proofs.Ytcbocglakielnaa
open Go.RowKit
set_option linter.unusedSimpArgs false
set_option linter.unusedVariables false

/-- The form of a curve whose values can be asked for. -/
structure TotC (n p : Nat) (inc : Int) : Prop where
  p1 : 1 ≤ p
  pn : p ≤ n
  n8 : n ≤ 8192
def GivesTot (zs : List Int) (p : Nat) (inc : Int) (t : Nat) (w : World) (e : Ending) (w' : World) : Prop :=
  ∃ v : Int, (Good zs p inc → v = atC zs p inc t) ∧ e = .returned (.int .i64 v) ∧ Below w.heap.size w w'
set_option maxHeartbeats 1600000 in
theorem rat_tot (a : Option Addr) (n cap : Nat) (zs : List Int) (p : Nat) (inc : Int) (h0 : TotC n p inc) (ti : Int) (t : Nat) (hti : ti = t) (ht : t ≤ 1000000) (w : World) (h : RowZ w a n cap zs) :
    Calls Try.prog 31 #[curV a n cap p inc, .int .i64 ti] w (GivesTot zs p inc t w) := by
  by_cases good : Good zs p inc
  · refine (rat_at a n cap zs p inc good ti t hti (by omega) _ rfl w h).mono ?_
    rintro e w' ⟨rfl, hb⟩
    exact ⟨_, fun _ => rfl, rfl, hb⟩
  subst hti
  have hB := below_box (w := w) (.cells #[.slice a n cap, .int .i64 p, .int .i64 inc] 24)
  have HBl := Lib.hid hB
  have hrow := h.under hB
  obtain ⟨hp1, hpn, hn8⟩ := h0
  have HNG := Lib.hid good
  have hnp : decide (n < p) = false := by simp; omega
  clear h hB good
  by_cases hlt : t < n
  · obtain ⟨x, rfl, hc⟩ := hrow.cell t hlt
    obtain ⟨z, hzz⟩ : ∃ z, zs.getD t 0 = z := ⟨_, rfl⟩
    rw [hzz] at hc
    have r10 : decide (n ≤ t) = false := by simp; omega
    have r13 : (t : Int) < (n : Int) := by omega
    clear hrow hzz
    go_enter Try.func31, Try.ntmps31
    go_wp2_with fail
    go_ret
    exact ⟨_, fun g => absurd g HNG.out, rfl, HBl.out⟩
  · obtain ⟨i1', i2', i3'⟩ := idx_facts hp1 hpn (show n ≤ t by omega)
    obtain ⟨u, hu⟩ : ∃ u, t = n + u := ⟨t - n, by omega⟩
    obtain ⟨c, hc⟩ : ∃ c, u / p = c := ⟨_, rfl⟩
    have hcu : c ≤ u := by rw [← hc]; exact Nat.div_le_self _ _
    obtain ⟨M, hM⟩ : ∃ M, (c + 1) * p = M := ⟨_, rfl⟩
    rw [show t - n = u by omega, hc, hM] at i1' i2' i3'
    obtain ⟨i, hi⟩ : ∃ i, t - M = i := ⟨_, rfl⟩
    rw [hi] at i2' i3'
    obtain ⟨x, rfl, hcell⟩ := hrow.cell i i3'
    obtain ⟨z, hzz⟩ : ∃ z, zs.getD i 0 = z := ⟨_, rfl⟩
    rw [hzz] at hcell
    have r1 : (t : Int) - (n : Int) = (u : Int) := by omega
    have r2 : (u : Int) / (p : Int) = (c : Int) := by rw [← hc, Int.natCast_ediv]
    have r3 : IntKind.i64.wrap (((c : Int) + 1) * (p : Int)) = (M : Int) := by
      rw [show ((c : Int) + 1) * (p : Int) = (M : Int) by rw [← hM]; simp]
      exact IntWalk.i64_in _ ⟨by omega, by omega⟩
    have r4 : (t : Int) - (M : Int) = (i : Int) := by omega
    have r5 : IntKind.i64.wrap (i : Int) = (i : Int) := IntWalk.i64_in _ ⟨by omega, by omega⟩
    have r8 : (0 : Int) ≤ (i : Int) := by omega
    have r9 : (i : Int) < (n : Int) := by omega
    have r10 : decide (n ≤ t) = true := by simp; omega
    have r13 : ¬ (t : Int) < (n : Int) := by omega
    have r14 : decide (t < n) = false := by simp; omega
    have r11 : ¬ (p : Int) = 0 := by omega
    have r12 : (1 : Int) ≤ (p : Int) := by omega
    have i2'' := i2'
    clear hrow hc hM hi hzz hu i1' i2' i2'' r14
    by_cases ez : z = 4611686018427387904
    · have ez' : (z == 4611686018427387904) = true := by simpa using ez
      clear ez
      go_enter Try.func31, Try.ntmps31
      go_wp2_with fail
      go_ret
      exact ⟨_, fun g => absurd g HNG.out, rfl, HBl.out⟩
    · have ez' : (z == 4611686018427387904) = false := by simpa using ez
      clear ez
      go_enter Try.func31, Try.ntmps31
      go_wp2_with fail
      go_ret
      exact ⟨_, fun g => absurd g HNG.out, rfl, HBl.out⟩

/-- Three curves in the call's first boxes. -/
structure C3 (w : World) (a1 : Option Addr) (n1 cap1 : Nat) (z1 : List Int) (p1 : Nat) (i1 : Int) (a2 : Option Addr) (n2 cap2 : Nat) (z2 : List Int) (p2 : Nat) (i2 : Int) (a3 : Option Addr) (n3 cap3 : Nat) (z3 : List Int) (p3 : Nat) (i3 : Int) (u : World) : Prop where
  f : Bx u w.heap.size a1 n1 cap1 p1 i1 z1
  g : Bx u (w.heap.size + 1) a2 n2 cap2 p2 i2 z2
  h : Bx u (w.heap.size + 1 + 1) a3 n3 cap3 p3 i3 z3
  below : Below w.heap.size w u
theorem C3.call {w u v : World} {a1 : Option Addr} {n1 cap1 : Nat} {z1 : List Int} {p1 : Nat} {i1 : Int} {a2 : Option Addr} {n2 cap2 : Nat} {z2 : List Int} {p2 : Nat} {i2 : Int} {a3 : Option Addr} {n3 cap3 : Nat} {z3 : List Int} {p3 : Nat} {i3 : Int} (k : C3 w a1 n1 cap1 z1 p1 i1 a2 n2 cap2 z2 p2 i2 a3 n3 cap3 z3 p3 i3 u) (hb : Below u.heap.size u v) : C3 w a1 n1 cap1 z1 p1 i1 a2 n2 cap2 z2 p2 i2 a3 n3 cap3 z3 p3 i3 v := ⟨k.f.under hb, k.g.under hb, k.h.under hb, k.below.trans (hb.mono k.below.size)⟩
theorem c3_new {w : World} {a1 : Option Addr} {n1 cap1 : Nat} {z1 : List Int} {p1 : Nat} {i1 : Int} {a2 : Option Addr} {n2 cap2 : Nat} {z2 : List Int} {p2 : Nat} {i2 : Int} {a3 : Option Addr} {n3 cap3 : Nat} {z3 : List Int} {p3 : Nat} {i3 : Int} (h1 : RowZ w a1 n1 cap1 z1) (h2 : RowZ w a2 n2 cap2 z2) (h3 : RowZ w a3 n3 cap3 z3) {W : World} (hW : ((w.alloc (.cells #[.slice a1 n1 cap1, .int .i64 p1, .int .i64 i1] 24)).alloc (.cells #[.slice a2 n2 cap2, .int .i64 p2, .int .i64 i2] 24)).alloc (.cells #[.slice a3 n3 cap3, .int .i64 p3, .int .i64 i3] 24) = W) : C3 w a1 n1 cap1 z1 p1 i1 a2 n2 cap2 z2 p2 i2 a3 n3 cap3 z3 p3 i3 W := by
  subst hW
  have hB : Below w.heap.size w (((w.alloc (.cells #[.slice a1 n1 cap1, .int .i64 p1, .int .i64 i1] 24)).alloc (.cells #[.slice a2 n2 cap2, .int .i64 p2, .int .i64 i2] 24)).alloc (.cells #[.slice a3 n3 cap3, .int .i64 p3, .int .i64 i3] 24)) := (((Below.refl _ _).alloc (Nat.le_refl _) _).alloc (by simp) _).alloc (by simp; omega) _
  have k := Cur3.new2 (w.alloc (.cells #[.slice a1 n1 cap1, .int .i64 p1, .int .i64 i1] 24)) (.slice a3 n3 cap3) (.int .i64 p3) (.int .i64 i3) 24 (.cells #[.slice a2 n2 cap2, .int .i64 p2, .int .i64 i2] 24)
  rw [show (w.alloc (.cells #[.slice a1 n1 cap1, .int .i64 p1, .int .i64 i1] 24)).heap.size = w.heap.size + 1 by simp] at k
  exact ⟨⟨((Cur3.new w _ _ _ _).alloc _).alloc _, h1.under hB⟩, ⟨(Cur3.new2 w _ _ _ _ _).alloc _, h2.under hB⟩, ⟨k, h3.under hB⟩, hB⟩

/-- At the ticks s and u the third curve, if it is one, is at most the sum. -/
def Le7 (z1 : List Int) (p1 : Nat) (i1 : Int) (z2 : List Int) (p2 : Nat) (i2 : Int) (z3 : List Int) (p3 : Nat) (i3 : Int) (s u : Nat) : Prop := Good z3 p3 i3 → atC z3 p3 i3 (s + u) ≤ plI (atC z1 p1 i1 s) (atC z2 p2 i2 u)
def GivesBelow (z1 : List Int) (p1 : Nat) (i1 : Int) (z2 : List Int) (p2 : Nat) (i2 : Int) (z3 : List Int) (p3 : Nat) (i3 : Int) (L : Nat) (w : World) (e : Ending) (w' : World) : Prop :=
  ∃ b : Bool, e = .returned (.bool b) ∧ Below w.heap.size w w' ∧ (Good z3 p3 i3 → (b = true ↔ ∀ s u, s < max (z1.length - p1) (z3.length - p3) + L → u < max (z2.length - p2) (z3.length - p3) + L → Le7 z1 p1 i1 z2 p2 i2 z3 p3 i3 s u))

set_option maxRecDepth 100000 in
set_option maxHeartbeats 6400000 in
theorem below7 (a1 : Option Addr) (n1 cap1 : Nat) (z1 : List Int) (p1 : Nat) (i1 : Int) (g1 : Good z1 p1 i1) (a2 : Option Addr) (n2 cap2 : Nat) (z2 : List Int) (p2 : Nat) (i2 : Int) (g2 : Good z2 p2 i2) (a3 : Option Addr) (n3 cap3 : Nat) (z3 : List Int) (p3 : Nat) (i3 : Int) (h0 : TotC n3 p3 i3) (L : Nat) (hL : L ≤ 120) (w : World) (h1 : RowZ w a1 n1 cap1 z1) (h2 : RowZ w a2 n2 cap2 z2) (h3 : RowZ w a3 n3 cap3 z3) :
    Calls Try.prog 132 #[curV a1 n1 cap1 p1 i1, curV a2 n2 cap2 p2 i2, curV a3 n3 cap3 p3 i3, .int .i64 L] w (GivesBelow z1 p1 i1 z2 p2 i2 z3 p3 i3 L w) := by
  obtain ⟨W, hW⟩ : ∃ W, ((w.alloc (.cells #[.slice a1 n1 cap1, .int .i64 p1, .int .i64 i1] 24)).alloc (.cells #[.slice a2 n2 cap2, .int .i64 p2, .int .i64 i2] 24)).alloc (.cells #[.slice a3 n3 cap3, .int .i64 p3, .int .i64 i3] 24) = W := ⟨_, rfl⟩
  have T0 := Lib.hid (c3_new h1 h2 h3 hW)
  have HG := Lib.hid (And.intro g1 g2)
  have HT := Lib.hid h0
  have B1 := Lib.hid (show p1 ≤ n1 ∧ n1 ≤ 100000 ∧ p2 ≤ n2 ∧ n2 ≤ 100000 ∧ p3 ≤ n3 ∧ n3 ≤ 100000 by have := h1.len; have := h2.len; have := g1.p3; have := g1.few; have := g2.p3; have := g2.few; have := h0.pn; have := h0.n8; omega)
  obtain ⟨sa, hsa⟩ : ∃ v, n1 - p1 = v := ⟨_, rfl⟩
  obtain ⟨sb, hsb⟩ : ∃ v, n2 - p2 = v := ⟨_, rfl⟩
  obtain ⟨sh, hsh⟩ : ∃ v, n3 - p3 = v := ⟨_, rfl⟩
  have hsa4 : sa ≤ 400 := by have := h1.len; have := g1.few; omega
  have hsb4 : sb ≤ 400 := by have := h2.len; have := g2.few; omega
  have hsh8 : sh ≤ 8192 := by have := h0.n8; omega
  have ia : ((n1 - p1 : Nat) : Int) = (sa : Int) := by omega
  have ib : ((n2 - p2 : Nat) : Int) = (sb : Int) := by omega
  have ih : ((n3 - p3 : Nat) : Int) = (sh : Int) := by omega
  have HI := Lib.hid (And.intro ia (And.intro ib ih))
  obtain ⟨M1, hM1⟩ : ∃ M, max sa sh + L = M := ⟨_, rfl⟩
  obtain ⟨M2, hM2⟩ : ∃ M, max sb sh + L = M := ⟨_, rfl⟩
  have HM := Lib.hid (show max (z1.length - p1) (z3.length - p3) + L = M1 ∧ max (z2.length - p2) (z3.length - p3) + L = M2 by rw [h1.len, h2.len, h3.len, hsa, hsb, hsh]; exact ⟨hM1, hM2⟩)
  have HMA := Lib.hid (show (sa < sh → (sh : Int) + (L : Int) = M1) ∧ (¬ sa < sh → (sa : Int) + (L : Int) = M1) ∧ (sb < sh → (sh : Int) + (L : Int) = M2) ∧ (¬ sb < sh → (sb : Int) + (L : Int) = M2) by
    refine ⟨fun h => by omega, fun h => by omega, fun h => by omega, fun h => by omega⟩)
  have hM1b : M1 ≤ 8400 := by omega
  have hM2b : M2 ≤ 8400 := by omega
  have hw1 : IntKind.i64.wrap (M1 : Int) = (M1 : Int) := IntWalk.i64_in _ ⟨by omega, by omega⟩
  have hw2 : IntKind.i64.wrap (M2 : Int) = (M2 : Int) := IntWalk.i64_in _ ⟨by omega, by omega⟩
  have HW := Lib.hid hW
  have KS := Lib.hid (show ∀ u, C3 w a1 n1 cap1 z1 p1 i1 a2 n2 cap2 z2 p2 i2 a3 n3 cap3 z3 p3 i3 u → (u.cell? ⟨w.heap.size, 0, none⟩ = some (.slice a1 n1 cap1) ∧ u.cell? ⟨w.heap.size, 1, none⟩ = some (.int .i64 p1) ∧ u.cell? ⟨w.heap.size, 2, none⟩ = some (.int .i64 i1)) ∧ (u.cell? ⟨w.heap.size + 1, 0, none⟩ = some (.slice a2 n2 cap2) ∧ u.cell? ⟨w.heap.size + 1, 1, none⟩ = some (.int .i64 p2) ∧ u.cell? ⟨w.heap.size + 1, 2, none⟩ = some (.int .i64 i2)) ∧ (u.cell? ⟨w.heap.size + 1 + 1, 0, none⟩ = some (.slice a3 n3 cap3) ∧ u.cell? ⟨w.heap.size + 1 + 1, 1, none⟩ = some (.int .i64 p3) ∧ u.cell? ⟨w.heap.size + 1 + 1, 2, none⟩ = some (.int .i64 i3)) ∧ Hid (C3 w a1 n1 cap1 z1 p1 i1 a2 n2 cap2 z2 p2 i2 a3 n3 cap3 z3 p3 i3 u) from fun u h => ⟨⟨h.f.box.c0, h.f.box.c1, h.f.box.c2⟩, ⟨h.g.box.c0, h.g.box.c1, h.g.box.c2⟩, ⟨h.h.box.c0, h.h.box.c1, h.h.box.c2⟩, h⟩)
  clear hW h1 h2 h3 g1 g2 h0 hsa hsb hsh ia ib ih hM1 hM2
  go_enter Try.func132, Try.ntmps132
  go_upto_region 1 with fail
  try rw [HW.out]
  go_wp2_with fail
  go_loopw [9] (fun s9 wx => ∃ k : Nat, s9 = .int .i64 k ∧ k ≤ M1 ∧ Hid (∀ s u, s < k → u < M2 → Le7 z1 p1 i1 z2 p2 i2 z3 p3 i3 s u) ∧ Hid (C3 w a1 n1 cap1 z1 p1 i1 a2 n2 cap2 z2 p2 i2 a3 n3 cap3 z3 p3 i3 wx)) (fun s9 _ => M1 - (intOf s9).toNat)
  case atStart => exact ⟨0, by go_num, by omega, fun s u hs => absurd hs (Nat.not_lt_zero s), T0⟩
  case round =>
    clear T0
    obtain ⟨k, rfl, hk, HLE, T1⟩ := hrel
    obtain ⟨wk, rfl⟩ : ∃ u : World, u = wr := ⟨_, rfl⟩
    have Q0 := Lib.hid (T1.out.call (Below.refl _ _).drew)
    go_upto_region 2 with fail
    go_cut [19] (fun s19 wx => s19 = .bool (decide (k < M1)) ∧ Hid (C3 w a1 n1 cap1 z1 p1 i1 a2 n2 cap2 z2 p2 i2 a3 n3 cap3 z3 p3 i3 wx))
    case first =>
      by_cases hss : sa < sh
      · have hs1 : (sa : Int) < (sh : Int) := by omega
        have hs2 : ¬ (sh : Int) < (sa : Int) := by omega
        have hs3 : ¬ (sh : Int) ≤ (sa : Int) := by omega
        have hs4 : (sa : Int) ≤ (sh : Int) := by omega
        have hsum := HMA.out.1 hss
        refine wp_region_keeps (fun u => (u.cell? ⟨w.heap.size, 0, none⟩ = some (.slice a1 n1 cap1) ∧ u.cell? ⟨w.heap.size, 1, none⟩ = some (.int .i64 p1) ∧ u.cell? ⟨w.heap.size, 2, none⟩ = some (.int .i64 i1)) ∧ (u.cell? ⟨w.heap.size + 1, 0, none⟩ = some (.slice a2 n2 cap2) ∧ u.cell? ⟨w.heap.size + 1, 1, none⟩ = some (.int .i64 p2) ∧ u.cell? ⟨w.heap.size + 1, 2, none⟩ = some (.int .i64 i2)) ∧ (u.cell? ⟨w.heap.size + 1 + 1, 0, none⟩ = some (.slice a3 n3 cap3) ∧ u.cell? ⟨w.heap.size + 1 + 1, 1, none⟩ = some (.int .i64 p3) ∧ u.cell? ⟨w.heap.size + 1 + 1, 2, none⟩ = some (.int .i64 i3)) ∧ Hid (C3 w a1 n1 cap1 z1 p1 i1 a2 n2 cap2 z2 p2 i2 a3 n3 cap3 z3 p3 i3 u)) 8 1 (by kernel_rfl) (by kernel_rfl) (KS.out _ Q0.out) (fun hHeld0 => ?_)
        refine wpAnyK_take (i := 0) (v := ?_) rfl (by kernel_rfl) (fun _ _ _ h => h) (Or.inl ⟨by rfl, ?_⟩) (by assumption) ?_
        rotate_left
        · (intro w hSw; (try dsimp only at hSw); go_simp; try with_reducible rfl)
        try simp only [Act.put, List.getElem_toArray, List.getElem_cons_zero, List.getElem_cons_succ, List.setIfInBounds_toArray, List.set_cons_zero, List.set_cons_succ]
        refine wpAnyK_take (i := 1) (v := ?_) rfl (by kernel_rfl) (fun _ _ _ h => h) (Or.inl ⟨by rfl, ?_⟩) (by assumption) ?_
        rotate_left
        · (intro w hSw; (try dsimp only at hSw); go_simp; try with_reducible rfl)
        try simp only [Act.put, List.getElem_toArray, List.getElem_cons_zero, List.getElem_cons_succ, List.setIfInBounds_toArray, List.set_cons_zero, List.set_cons_succ]
        refine wpAnyK_take (i := 3) (v := ?_) rfl (by kernel_rfl) (fun _ _ _ h => h) (Or.inl ⟨by rfl, ?_⟩) (by assumption) ?_
        rotate_left
        · (intro w hSw; (try dsimp only at hSw); go_simp; try with_reducible rfl)
        try simp only [Act.put, List.getElem_toArray, List.getElem_cons_zero, List.getElem_cons_succ, List.setIfInBounds_toArray, List.set_cons_zero, List.set_cons_succ]
        refine wpAnyK_take (i := 6) (v := ?_) rfl (by kernel_rfl) (fun _ _ _ h => h) (Or.inl ⟨by rfl, ?_⟩) (by assumption) ?_
        rotate_left
        · (intro w hSw; (try dsimp only at hSw); go_simp; try with_reducible rfl)
        try simp only [Act.put, List.getElem_toArray, List.getElem_cons_zero, List.getElem_cons_succ, List.setIfInBounds_toArray, List.set_cons_zero, List.set_cons_succ]
        refine wpAnyK_step (i := 2) rfl (by kernel_rfl) (fun K hK => ?_)
        go_simp
        with_reducible refine (start7 a1 n1 cap1 p1 i1 B1.out.1 B1.out.2.1 sa HI.out.1 _).mono ?_
        rintro e y1 ⟨rfl, hb⟩
        have Q1 := Lib.hid (Q0.out.call hb)
        clear hb
        refine hK.out _ _ (KS.out _ Q1.out) (fun hHeld1 => ?_)
        clear hK K hHeld0
        try simp only [Act.put, List.getElem_toArray, List.getElem_cons_zero, List.getElem_cons_succ, List.setIfInBounds_toArray, List.set_cons_zero, List.set_cons_succ]
        refine wpAnyK_step (i := 4) rfl (by kernel_rfl) (fun K hK => ?_)
        go_simp
        with_reducible refine (start7 a3 n3 cap3 p3 i3 B1.out.2.2.2.2.1 B1.out.2.2.2.2.2 sh HI.out.2.2 _).mono ?_
        rintro e y2 ⟨rfl, hb⟩
        have Q2 := Lib.hid (Q1.out.call hb)
        clear hb
        refine hK.out _ _ (KS.out _ Q2.out) (fun hHeld2 => ?_)
        clear hK K hHeld1
        try simp only [Act.put, List.getElem_toArray, List.getElem_cons_zero, List.getElem_cons_succ, List.setIfInBounds_toArray, List.set_cons_zero, List.set_cons_succ]
        refine wpAnyK_take (i := 5) (v := ?_) rfl (by kernel_rfl) (fun _ _ _ h => h) (Or.inl ⟨by rfl, ?_⟩) (by assumption) ?_
        rotate_left
        · (intro w hSw; (try dsimp only at hSw); go_simp; try with_reducible rfl)
        try simp only [Act.put, List.getElem_toArray, List.getElem_cons_zero, List.getElem_cons_succ, List.setIfInBounds_toArray, List.set_cons_zero, List.set_cons_succ]
        refine wpAnyK_take (i := 7) (v := ?_) rfl (by kernel_rfl) (fun _ _ _ h => h) (Or.inl ⟨by rfl, ?_⟩) (by assumption) ?_
        rotate_left
        · (intro w hSw; (try dsimp only at hSw); go_simp; try with_reducible rfl)
        try simp only [Act.put, List.getElem_toArray, List.getElem_cons_zero, List.getElem_cons_succ, List.setIfInBounds_toArray, List.set_cons_zero, List.set_cons_succ]
        refine wpAnyK_done (by kernel_rfl) ?_
        simp only [List.drop_succ_cons, List.drop_zero]
        clear hHeld2
        have hdk : decide ((k : Int) < (M1 : Int)) = decide (k < M1) := by simp
        go_wp2_with fail
        go_meet
        exact ⟨by first | rfl | simp [hdk, hsum, hw1], Q2⟩
      · have hs1 : ¬ (sa : Int) < (sh : Int) := by omega
        have hsum := HMA.out.2.1 hss
        have hs4 : (sh : Int) ≤ (sa : Int) := by omega
        refine wp_region_keeps (fun u => (u.cell? ⟨w.heap.size, 0, none⟩ = some (.slice a1 n1 cap1) ∧ u.cell? ⟨w.heap.size, 1, none⟩ = some (.int .i64 p1) ∧ u.cell? ⟨w.heap.size, 2, none⟩ = some (.int .i64 i1)) ∧ (u.cell? ⟨w.heap.size + 1, 0, none⟩ = some (.slice a2 n2 cap2) ∧ u.cell? ⟨w.heap.size + 1, 1, none⟩ = some (.int .i64 p2) ∧ u.cell? ⟨w.heap.size + 1, 2, none⟩ = some (.int .i64 i2)) ∧ (u.cell? ⟨w.heap.size + 1 + 1, 0, none⟩ = some (.slice a3 n3 cap3) ∧ u.cell? ⟨w.heap.size + 1 + 1, 1, none⟩ = some (.int .i64 p3) ∧ u.cell? ⟨w.heap.size + 1 + 1, 2, none⟩ = some (.int .i64 i3)) ∧ Hid (C3 w a1 n1 cap1 z1 p1 i1 a2 n2 cap2 z2 p2 i2 a3 n3 cap3 z3 p3 i3 u)) 8 1 (by kernel_rfl) (by kernel_rfl) (KS.out _ Q0.out) (fun hHeld0 => ?_)
        refine wpAnyK_take (i := 0) (v := ?_) rfl (by kernel_rfl) (fun _ _ _ h => h) (Or.inl ⟨by rfl, ?_⟩) (by assumption) ?_
        rotate_left
        · (intro w hSw; (try dsimp only at hSw); go_simp; try with_reducible rfl)
        try simp only [Act.put, List.getElem_toArray, List.getElem_cons_zero, List.getElem_cons_succ, List.setIfInBounds_toArray, List.set_cons_zero, List.set_cons_succ]
        refine wpAnyK_take (i := 1) (v := ?_) rfl (by kernel_rfl) (fun _ _ _ h => h) (Or.inl ⟨by rfl, ?_⟩) (by assumption) ?_
        rotate_left
        · (intro w hSw; (try dsimp only at hSw); go_simp; try with_reducible rfl)
        try simp only [Act.put, List.getElem_toArray, List.getElem_cons_zero, List.getElem_cons_succ, List.setIfInBounds_toArray, List.set_cons_zero, List.set_cons_succ]
        refine wpAnyK_take (i := 3) (v := ?_) rfl (by kernel_rfl) (fun _ _ _ h => h) (Or.inl ⟨by rfl, ?_⟩) (by assumption) ?_
        rotate_left
        · (intro w hSw; (try dsimp only at hSw); go_simp; try with_reducible rfl)
        try simp only [Act.put, List.getElem_toArray, List.getElem_cons_zero, List.getElem_cons_succ, List.setIfInBounds_toArray, List.set_cons_zero, List.set_cons_succ]
        refine wpAnyK_take (i := 6) (v := ?_) rfl (by kernel_rfl) (fun _ _ _ h => h) (Or.inl ⟨by rfl, ?_⟩) (by assumption) ?_
        rotate_left
        · (intro w hSw; (try dsimp only at hSw); go_simp; try with_reducible rfl)
        try simp only [Act.put, List.getElem_toArray, List.getElem_cons_zero, List.getElem_cons_succ, List.setIfInBounds_toArray, List.set_cons_zero, List.set_cons_succ]
        refine wpAnyK_step (i := 2) rfl (by kernel_rfl) (fun K hK => ?_)
        go_simp
        with_reducible refine (start7 a1 n1 cap1 p1 i1 B1.out.1 B1.out.2.1 sa HI.out.1 _).mono ?_
        rintro e y1 ⟨rfl, hb⟩
        have Q1 := Lib.hid (Q0.out.call hb)
        clear hb
        refine hK.out _ _ (KS.out _ Q1.out) (fun hHeld1 => ?_)
        clear hK K hHeld0
        try simp only [Act.put, List.getElem_toArray, List.getElem_cons_zero, List.getElem_cons_succ, List.setIfInBounds_toArray, List.set_cons_zero, List.set_cons_succ]
        refine wpAnyK_step (i := 4) rfl (by kernel_rfl) (fun K hK => ?_)
        go_simp
        with_reducible refine (start7 a3 n3 cap3 p3 i3 B1.out.2.2.2.2.1 B1.out.2.2.2.2.2 sh HI.out.2.2 _).mono ?_
        rintro e y2 ⟨rfl, hb⟩
        have Q2 := Lib.hid (Q1.out.call hb)
        clear hb
        refine hK.out _ _ (KS.out _ Q2.out) (fun hHeld2 => ?_)
        clear hK K hHeld1
        try simp only [Act.put, List.getElem_toArray, List.getElem_cons_zero, List.getElem_cons_succ, List.setIfInBounds_toArray, List.set_cons_zero, List.set_cons_succ]
        refine wpAnyK_take (i := 5) (v := ?_) rfl (by kernel_rfl) (fun _ _ _ h => h) (Or.inl ⟨by rfl, ?_⟩) (by assumption) ?_
        rotate_left
        · (intro w hSw; (try dsimp only at hSw); go_simp; try with_reducible rfl)
        try simp only [Act.put, List.getElem_toArray, List.getElem_cons_zero, List.getElem_cons_succ, List.setIfInBounds_toArray, List.set_cons_zero, List.set_cons_succ]
        refine wpAnyK_take (i := 7) (v := ?_) rfl (by kernel_rfl) (fun _ _ _ h => h) (Or.inl ⟨by rfl, ?_⟩) (by assumption) ?_
        rotate_left
        · (intro w hSw; (try dsimp only at hSw); go_simp; try with_reducible rfl)
        try simp only [Act.put, List.getElem_toArray, List.getElem_cons_zero, List.getElem_cons_succ, List.setIfInBounds_toArray, List.set_cons_zero, List.set_cons_succ]
        refine wpAnyK_done (by kernel_rfl) ?_
        simp only [List.drop_succ_cons, List.drop_zero]
        clear hHeld2
        have hdk : decide ((k : Int) < (M1 : Int)) = decide (k < M1) := by simp
        go_wp2_with fail
        go_meet
        exact ⟨by first | rfl | simp [hdk, hsum, hw1], Q2⟩
    case rest =>
    obtain ⟨rfl, T2⟩ := hcut
    obtain ⟨w2, rfl⟩ : ∃ u : World, u = wc := ⟨_, rfl⟩
    clear T1 Q0
    by_cases hlt : k < M1
    · have hd : decide (k < M1) = true := decide_eq_true hlt
      rw [hd]
      go_wp2_with fail
      go_loopw [10] (fun s10 wx => ∃ j : Nat, s10 = .int .i64 j ∧ j ≤ M2 ∧ Hid (∀ u, u < j → Le7 z1 p1 i1 z2 p2 i2 z3 p3 i3 k u) ∧ Hid (C3 w a1 n1 cap1 z1 p1 i1 a2 n2 cap2 z2 p2 i2 a3 n3 cap3 z3 p3 i3 wx)) (fun s10 _ => M2 - (intOf s10).toNat)
      case atStart => exact ⟨0, by go_num, by omega, fun u hu => absurd hu (Nat.not_lt_zero u), T2⟩
      case round =>
        clear T2
        obtain ⟨j, rfl, hj, HLJ, T3⟩ := hrel
        obtain ⟨w3, rfl⟩ : ∃ u : World, u = wr := ⟨_, rfl⟩
        have Q0 := Lib.hid (T3.out.call (Below.refl _ _).drew)
        go_upto_region 5 with fail
        go_cut [30] (fun s30 wx => s30 = .bool (decide (j < M2)) ∧ Hid (C3 w a1 n1 cap1 z1 p1 i1 a2 n2 cap2 z2 p2 i2 a3 n3 cap3 z3 p3 i3 wx))
        case first =>
          by_cases hss : sb < sh
          · have hs1 : (sb : Int) < (sh : Int) := by omega
            have hs2 : ¬ (sh : Int) < (sb : Int) := by omega
            have hs3 : ¬ (sh : Int) ≤ (sb : Int) := by omega
            have hs4 : (sb : Int) ≤ (sh : Int) := by omega
            have hsum := HMA.out.2.2.1 hss
            refine wp_region_keeps (fun u => (u.cell? ⟨w.heap.size, 0, none⟩ = some (.slice a1 n1 cap1) ∧ u.cell? ⟨w.heap.size, 1, none⟩ = some (.int .i64 p1) ∧ u.cell? ⟨w.heap.size, 2, none⟩ = some (.int .i64 i1)) ∧ (u.cell? ⟨w.heap.size + 1, 0, none⟩ = some (.slice a2 n2 cap2) ∧ u.cell? ⟨w.heap.size + 1, 1, none⟩ = some (.int .i64 p2) ∧ u.cell? ⟨w.heap.size + 1, 2, none⟩ = some (.int .i64 i2)) ∧ (u.cell? ⟨w.heap.size + 1 + 1, 0, none⟩ = some (.slice a3 n3 cap3) ∧ u.cell? ⟨w.heap.size + 1 + 1, 1, none⟩ = some (.int .i64 p3) ∧ u.cell? ⟨w.heap.size + 1 + 1, 2, none⟩ = some (.int .i64 i3)) ∧ Hid (C3 w a1 n1 cap1 z1 p1 i1 a2 n2 cap2 z2 p2 i2 a3 n3 cap3 z3 p3 i3 u)) 8 1 (by kernel_rfl) (by kernel_rfl) (KS.out _ Q0.out) (fun hHeld0 => ?_)
            refine wpAnyK_take (i := 0) (v := ?_) rfl (by kernel_rfl) (fun _ _ _ h => h) (Or.inl ⟨by rfl, ?_⟩) (by assumption) ?_
            rotate_left
            · (intro w hSw; (try dsimp only at hSw); go_simp; try with_reducible rfl)
            try simp only [Act.put, List.getElem_toArray, List.getElem_cons_zero, List.getElem_cons_succ, List.setIfInBounds_toArray, List.set_cons_zero, List.set_cons_succ]
            refine wpAnyK_take (i := 1) (v := ?_) rfl (by kernel_rfl) (fun _ _ _ h => h) (Or.inl ⟨by rfl, ?_⟩) (by assumption) ?_
            rotate_left
            · (intro w hSw; (try dsimp only at hSw); go_simp; try with_reducible rfl)
            try simp only [Act.put, List.getElem_toArray, List.getElem_cons_zero, List.getElem_cons_succ, List.setIfInBounds_toArray, List.set_cons_zero, List.set_cons_succ]
            refine wpAnyK_take (i := 3) (v := ?_) rfl (by kernel_rfl) (fun _ _ _ h => h) (Or.inl ⟨by rfl, ?_⟩) (by assumption) ?_
            rotate_left
            · (intro w hSw; (try dsimp only at hSw); go_simp; try with_reducible rfl)
            try simp only [Act.put, List.getElem_toArray, List.getElem_cons_zero, List.getElem_cons_succ, List.setIfInBounds_toArray, List.set_cons_zero, List.set_cons_succ]
            refine wpAnyK_take (i := 6) (v := ?_) rfl (by kernel_rfl) (fun _ _ _ h => h) (Or.inl ⟨by rfl, ?_⟩) (by assumption) ?_
            rotate_left
            · (intro w hSw; (try dsimp only at hSw); go_simp; try with_reducible rfl)
            try simp only [Act.put, List.getElem_toArray, List.getElem_cons_zero, List.getElem_cons_succ, List.setIfInBounds_toArray, List.set_cons_zero, List.set_cons_succ]
            refine wpAnyK_step (i := 2) rfl (by kernel_rfl) (fun K hK => ?_)
            go_simp
            with_reducible refine (start7 a2 n2 cap2 p2 i2 B1.out.2.2.1 B1.out.2.2.2.1 sb HI.out.2.1 _).mono ?_
            rintro e y1 ⟨rfl, hb⟩
            have Q1 := Lib.hid (Q0.out.call hb)
            clear hb
            refine hK.out _ _ (KS.out _ Q1.out) (fun hHeld1 => ?_)
            clear hK K hHeld0
            try simp only [Act.put, List.getElem_toArray, List.getElem_cons_zero, List.getElem_cons_succ, List.setIfInBounds_toArray, List.set_cons_zero, List.set_cons_succ]
            refine wpAnyK_step (i := 4) rfl (by kernel_rfl) (fun K hK => ?_)
            go_simp
            with_reducible refine (start7 a3 n3 cap3 p3 i3 B1.out.2.2.2.2.1 B1.out.2.2.2.2.2 sh HI.out.2.2 _).mono ?_
            rintro e y2 ⟨rfl, hb⟩
            have Q2 := Lib.hid (Q1.out.call hb)
            clear hb
            refine hK.out _ _ (KS.out _ Q2.out) (fun hHeld2 => ?_)
            clear hK K hHeld1
            try simp only [Act.put, List.getElem_toArray, List.getElem_cons_zero, List.getElem_cons_succ, List.setIfInBounds_toArray, List.set_cons_zero, List.set_cons_succ]
            refine wpAnyK_take (i := 5) (v := ?_) rfl (by kernel_rfl) (fun _ _ _ h => h) (Or.inl ⟨by rfl, ?_⟩) (by assumption) ?_
            rotate_left
            · (intro w hSw; (try dsimp only at hSw); go_simp; try with_reducible rfl)
            try simp only [Act.put, List.getElem_toArray, List.getElem_cons_zero, List.getElem_cons_succ, List.setIfInBounds_toArray, List.set_cons_zero, List.set_cons_succ]
            refine wpAnyK_take (i := 7) (v := ?_) rfl (by kernel_rfl) (fun _ _ _ h => h) (Or.inl ⟨by rfl, ?_⟩) (by assumption) ?_
            rotate_left
            · (intro w hSw; (try dsimp only at hSw); go_simp; try with_reducible rfl)
            try simp only [Act.put, List.getElem_toArray, List.getElem_cons_zero, List.getElem_cons_succ, List.setIfInBounds_toArray, List.set_cons_zero, List.set_cons_succ]
            refine wpAnyK_done (by kernel_rfl) ?_
            simp only [List.drop_succ_cons, List.drop_zero]
            clear hHeld2
            have hdk : decide ((j : Int) < (M2 : Int)) = decide (j < M2) := by simp
            go_wp2_with fail
            go_meet
            exact ⟨by first | rfl | simp [hdk, hsum, hw2], Q2⟩
          · have hs1 : ¬ (sb : Int) < (sh : Int) := by omega
            have hsum := HMA.out.2.2.2 hss
            have hs4 : (sh : Int) ≤ (sb : Int) := by omega
            refine wp_region_keeps (fun u => (u.cell? ⟨w.heap.size, 0, none⟩ = some (.slice a1 n1 cap1) ∧ u.cell? ⟨w.heap.size, 1, none⟩ = some (.int .i64 p1) ∧ u.cell? ⟨w.heap.size, 2, none⟩ = some (.int .i64 i1)) ∧ (u.cell? ⟨w.heap.size + 1, 0, none⟩ = some (.slice a2 n2 cap2) ∧ u.cell? ⟨w.heap.size + 1, 1, none⟩ = some (.int .i64 p2) ∧ u.cell? ⟨w.heap.size + 1, 2, none⟩ = some (.int .i64 i2)) ∧ (u.cell? ⟨w.heap.size + 1 + 1, 0, none⟩ = some (.slice a3 n3 cap3) ∧ u.cell? ⟨w.heap.size + 1 + 1, 1, none⟩ = some (.int .i64 p3) ∧ u.cell? ⟨w.heap.size + 1 + 1, 2, none⟩ = some (.int .i64 i3)) ∧ Hid (C3 w a1 n1 cap1 z1 p1 i1 a2 n2 cap2 z2 p2 i2 a3 n3 cap3 z3 p3 i3 u)) 8 1 (by kernel_rfl) (by kernel_rfl) (KS.out _ Q0.out) (fun hHeld0 => ?_)
            refine wpAnyK_take (i := 0) (v := ?_) rfl (by kernel_rfl) (fun _ _ _ h => h) (Or.inl ⟨by rfl, ?_⟩) (by assumption) ?_
            rotate_left
            · (intro w hSw; (try dsimp only at hSw); go_simp; try with_reducible rfl)
            try simp only [Act.put, List.getElem_toArray, List.getElem_cons_zero, List.getElem_cons_succ, List.setIfInBounds_toArray, List.set_cons_zero, List.set_cons_succ]
            refine wpAnyK_take (i := 1) (v := ?_) rfl (by kernel_rfl) (fun _ _ _ h => h) (Or.inl ⟨by rfl, ?_⟩) (by assumption) ?_
            rotate_left
            · (intro w hSw; (try dsimp only at hSw); go_simp; try with_reducible rfl)
            try simp only [Act.put, List.getElem_toArray, List.getElem_cons_zero, List.getElem_cons_succ, List.setIfInBounds_toArray, List.set_cons_zero, List.set_cons_succ]
            refine wpAnyK_take (i := 3) (v := ?_) rfl (by kernel_rfl) (fun _ _ _ h => h) (Or.inl ⟨by rfl, ?_⟩) (by assumption) ?_
            rotate_left
            · (intro w hSw; (try dsimp only at hSw); go_simp; try with_reducible rfl)
            try simp only [Act.put, List.getElem_toArray, List.getElem_cons_zero, List.getElem_cons_succ, List.setIfInBounds_toArray, List.set_cons_zero, List.set_cons_succ]
            refine wpAnyK_take (i := 6) (v := ?_) rfl (by kernel_rfl) (fun _ _ _ h => h) (Or.inl ⟨by rfl, ?_⟩) (by assumption) ?_
            rotate_left
            · (intro w hSw; (try dsimp only at hSw); go_simp; try with_reducible rfl)
            try simp only [Act.put, List.getElem_toArray, List.getElem_cons_zero, List.getElem_cons_succ, List.setIfInBounds_toArray, List.set_cons_zero, List.set_cons_succ]
            refine wpAnyK_step (i := 2) rfl (by kernel_rfl) (fun K hK => ?_)
            go_simp
            with_reducible refine (start7 a2 n2 cap2 p2 i2 B1.out.2.2.1 B1.out.2.2.2.1 sb HI.out.2.1 _).mono ?_
            rintro e y1 ⟨rfl, hb⟩
            have Q1 := Lib.hid (Q0.out.call hb)
            clear hb
            refine hK.out _ _ (KS.out _ Q1.out) (fun hHeld1 => ?_)
            clear hK K hHeld0
            try simp only [Act.put, List.getElem_toArray, List.getElem_cons_zero, List.getElem_cons_succ, List.setIfInBounds_toArray, List.set_cons_zero, List.set_cons_succ]
            refine wpAnyK_step (i := 4) rfl (by kernel_rfl) (fun K hK => ?_)
            go_simp
            with_reducible refine (start7 a3 n3 cap3 p3 i3 B1.out.2.2.2.2.1 B1.out.2.2.2.2.2 sh HI.out.2.2 _).mono ?_
            rintro e y2 ⟨rfl, hb⟩
            have Q2 := Lib.hid (Q1.out.call hb)
            clear hb
            refine hK.out _ _ (KS.out _ Q2.out) (fun hHeld2 => ?_)
            clear hK K hHeld1
            try simp only [Act.put, List.getElem_toArray, List.getElem_cons_zero, List.getElem_cons_succ, List.setIfInBounds_toArray, List.set_cons_zero, List.set_cons_succ]
            refine wpAnyK_take (i := 5) (v := ?_) rfl (by kernel_rfl) (fun _ _ _ h => h) (Or.inl ⟨by rfl, ?_⟩) (by assumption) ?_
            rotate_left
            · (intro w hSw; (try dsimp only at hSw); go_simp; try with_reducible rfl)
            try simp only [Act.put, List.getElem_toArray, List.getElem_cons_zero, List.getElem_cons_succ, List.setIfInBounds_toArray, List.set_cons_zero, List.set_cons_succ]
            refine wpAnyK_take (i := 7) (v := ?_) rfl (by kernel_rfl) (fun _ _ _ h => h) (Or.inl ⟨by rfl, ?_⟩) (by assumption) ?_
            rotate_left
            · (intro w hSw; (try dsimp only at hSw); go_simp; try with_reducible rfl)
            try simp only [Act.put, List.getElem_toArray, List.getElem_cons_zero, List.getElem_cons_succ, List.setIfInBounds_toArray, List.set_cons_zero, List.set_cons_succ]
            refine wpAnyK_done (by kernel_rfl) ?_
            simp only [List.drop_succ_cons, List.drop_zero]
            clear hHeld2
            have hdk : decide ((j : Int) < (M2 : Int)) = decide (j < M2) := by simp
            go_wp2_with fail
            go_meet
            exact ⟨by first | rfl | simp [hdk, hsum, hw2], Q2⟩
        case rest =>
        obtain ⟨rfl, T4⟩ := hcut
        obtain ⟨w4, rfl⟩ : ∃ u : World, u = wc := ⟨_, rfl⟩
        clear T3 Q0
        by_cases hjt : j < M2
        · have hd2 : decide (j < M2) = true := decide_eq_true hjt
          rw [hd2]
          have Q0 := Lib.hid (T4.out.call (Below.refl _ _).drew)
          obtain ⟨vx, hvx⟩ : ∃ v, atC z1 p1 i1 k = v := ⟨_, rfl⟩
          obtain ⟨vy, hvy⟩ : ∃ v, atC z2 p2 i2 j = v := ⟨_, rfl⟩
          obtain ⟨vp, hvp⟩ : ∃ v, plI vx vy = v := ⟨_, rfl⟩
          have MX := Lib.hid (show Mid vx ∧ Mid vy by rw [← hvx, ← hvy]; exact ⟨at_mid2 HG.out.1 (by omega), at_mid2 HG.out.2 (by omega)⟩)
          have HLK := Lib.hid (show Le7 z1 p1 i1 z2 p2 i2 z3 p3 i3 k j ↔ (Good z3 p3 i3 → atC z3 p3 i3 (k + j) ≤ vp) by unfold Le7; rw [hvx, hvy, hvp])
          have HVV := Lib.hid (And.intro hvx (And.intro hvy hvp))
          obtain ⟨m, hm⟩ : ∃ m, k + j = m := ⟨_, rfl⟩
          have hmi : (k : Int) + (j : Int) = (m : Int) := by omega
          have hmw : IntKind.i64.wrap (m : Int) = (m : Int) := IntWalk.i64_in _ ⟨by omega, by omega⟩
          have hmb : m ≤ 20000 := by omega
          rw [hm] at HLK
          clear hvx hvy hvp
          go_upto_region 7 with fail
          go_cut [45] (fun s45 wx => ∃ vh : Int, s45 = .bool (decide (vp < vh)) ∧ Hid (Good z3 p3 i3 → vh = atC z3 p3 i3 m) ∧ Hid (C3 w a1 n1 cap1 z1 p1 i1 a2 n2 cap2 z2 p2 i2 a3 n3 cap3 z3 p3 i3 wx))
          case first =>
            refine wp_region_keeps (fun u => (u.cell? ⟨w.heap.size, 0, none⟩ = some (.slice a1 n1 cap1) ∧ u.cell? ⟨w.heap.size, 1, none⟩ = some (.int .i64 p1) ∧ u.cell? ⟨w.heap.size, 2, none⟩ = some (.int .i64 i1)) ∧ (u.cell? ⟨w.heap.size + 1, 0, none⟩ = some (.slice a2 n2 cap2) ∧ u.cell? ⟨w.heap.size + 1, 1, none⟩ = some (.int .i64 p2) ∧ u.cell? ⟨w.heap.size + 1, 2, none⟩ = some (.int .i64 i2)) ∧ (u.cell? ⟨w.heap.size + 1 + 1, 0, none⟩ = some (.slice a3 n3 cap3) ∧ u.cell? ⟨w.heap.size + 1 + 1, 1, none⟩ = some (.int .i64 p3) ∧ u.cell? ⟨w.heap.size + 1 + 1, 2, none⟩ = some (.int .i64 i3)) ∧ Hid (C3 w a1 n1 cap1 z1 p1 i1 a2 n2 cap2 z2 p2 i2 a3 n3 cap3 z3 p3 i3 u)) 12 1 (by kernel_rfl) (by kernel_rfl) (KS.out _ Q0.out) (fun hHeld0 => ?_)
            refine wpAnyK_take (i := 0) (v := ?_) rfl (by kernel_rfl) (fun _ _ _ h => h) (Or.inl ⟨by rfl, ?_⟩) (by assumption) ?_
            rotate_left
            · (intro w hSw; (try dsimp only at hSw); go_simp; try with_reducible rfl)
            try simp only [Act.put, List.getElem_toArray, List.getElem_cons_zero, List.getElem_cons_succ, List.setIfInBounds_toArray, List.set_cons_zero, List.set_cons_succ]
            refine wpAnyK_take (i := 1) (v := ?_) rfl (by kernel_rfl) (fun _ _ _ h => h) (Or.inl ⟨by rfl, ?_⟩) (by assumption) ?_
            rotate_left
            · (intro w hSw; (try dsimp only at hSw); go_simp; try with_reducible rfl)
            try simp only [Act.put, List.getElem_toArray, List.getElem_cons_zero, List.getElem_cons_succ, List.setIfInBounds_toArray, List.set_cons_zero, List.set_cons_succ]
            refine wpAnyK_take (i := 2) (v := ?_) rfl (by kernel_rfl) (fun _ _ _ h => h) (Or.inl ⟨by rfl, ?_⟩) (by assumption) ?_
            rotate_left
            · (intro w hSw; (try dsimp only at hSw); go_simp; try with_reducible rfl)
            try simp only [Act.put, List.getElem_toArray, List.getElem_cons_zero, List.getElem_cons_succ, List.setIfInBounds_toArray, List.set_cons_zero, List.set_cons_succ]
            refine wpAnyK_take (i := 3) (v := ?_) rfl (by kernel_rfl) (fun _ _ _ h => h) (Or.inl ⟨by rfl, ?_⟩) (by assumption) ?_
            rotate_left
            · (intro w hSw; (try dsimp only at hSw); go_simp; try with_reducible rfl)
            try simp only [Act.put, List.getElem_toArray, List.getElem_cons_zero, List.getElem_cons_succ, List.setIfInBounds_toArray, List.set_cons_zero, List.set_cons_succ]
            refine wpAnyK_take (i := 5) (v := ?_) rfl (by kernel_rfl) (fun _ _ _ h => h) (Or.inl ⟨by rfl, ?_⟩) (by assumption) ?_
            rotate_left
            · (intro w hSw; (try dsimp only at hSw); go_simp; try with_reducible rfl)
            try simp only [Act.put, List.getElem_toArray, List.getElem_cons_zero, List.getElem_cons_succ, List.setIfInBounds_toArray, List.set_cons_zero, List.set_cons_succ]
            refine wpAnyK_take (i := 6) (v := ?_) rfl (by kernel_rfl) (fun _ _ _ h => h) (Or.inl ⟨by rfl, ?_⟩) (by assumption) ?_
            rotate_left
            · (intro w hSw; (try dsimp only at hSw); go_simp; try with_reducible rfl)
            try simp only [Act.put, List.getElem_toArray, List.getElem_cons_zero, List.getElem_cons_succ, List.setIfInBounds_toArray, List.set_cons_zero, List.set_cons_succ]
            refine wpAnyK_take (i := 8) (v := ?_) rfl (by kernel_rfl) (fun _ _ _ h => h) (Or.inl ⟨by rfl, ?_⟩) (by assumption) ?_
            rotate_left
            · (intro w hSw; (try dsimp only at hSw); go_simp; try with_reducible rfl)
            try simp only [Act.put, List.getElem_toArray, List.getElem_cons_zero, List.getElem_cons_succ, List.setIfInBounds_toArray, List.set_cons_zero, List.set_cons_succ]
            refine wpAnyK_take (i := 9) (v := ?_) rfl (by kernel_rfl) (fun _ _ _ h => h) (Or.inl ⟨by rfl, ?_⟩) (by assumption) ?_
            rotate_left
            · (intro w hSw; (try dsimp only at hSw); go_simp; try with_reducible rfl)
            try simp only [Act.put, List.getElem_toArray, List.getElem_cons_zero, List.getElem_cons_succ, List.setIfInBounds_toArray, List.set_cons_zero, List.set_cons_succ]
            refine wpAnyK_step (i := 4) rfl (by kernel_rfl) (fun K hK => ?_)
            go_simp
            with_reducible refine (rat_tot a3 n3 cap3 z3 p3 i3 HT.out m m rfl (by omega) _ Q0.out.h.row).mono ?_
            rintro e y1 ⟨vh, hvh, rfl, hb⟩
            have HVH := Lib.hid hvh
            have Q1 := Lib.hid (Q0.out.call hb)
            clear hb hvh
            refine hK.out _ _ (KS.out _ Q1.out) (fun hHeld1 => ?_)
            clear hK K hHeld0
            try simp only [Act.put, List.getElem_toArray, List.getElem_cons_zero, List.getElem_cons_succ, List.setIfInBounds_toArray, List.set_cons_zero, List.set_cons_succ]
            refine wpAnyK_step (i := 7) rfl (by kernel_rfl) (fun K hK => ?_)
            go_simp
            with_reducible refine (rat_at a1 n1 cap1 z1 p1 i1 HG.out.1 k k rfl (by omega) vx HVV.out.1 _ Q1.out.f.row).mono ?_
            rintro e y2 ⟨rfl, hb⟩
            have Q2 := Lib.hid (Q1.out.call hb)
            clear hb
            refine hK.out _ _ (KS.out _ Q2.out) (fun hHeld2 => ?_)
            clear hK K hHeld1
            try simp only [Act.put, List.getElem_toArray, List.getElem_cons_zero, List.getElem_cons_succ, List.setIfInBounds_toArray, List.set_cons_zero, List.set_cons_succ]
            refine wpAnyK_step (i := 10) rfl (by kernel_rfl) (fun K hK => ?_)
            go_simp
            with_reducible refine (rat_at a2 n2 cap2 z2 p2 i2 HG.out.2 j j rfl (by omega) vy HVV.out.2.1 _ Q2.out.g.row).mono ?_
            rintro e y3 ⟨rfl, hb⟩
            have Q3 := Lib.hid (Q2.out.call hb)
            clear hb
            refine hK.out _ _ (KS.out _ Q3.out) (fun hHeld3 => ?_)
            clear hK K hHeld2
            try simp only [Act.put, List.getElem_toArray, List.getElem_cons_zero, List.getElem_cons_succ, List.setIfInBounds_toArray, List.set_cons_zero, List.set_cons_succ]
            refine wpAnyK_step (i := 11) rfl (by kernel_rfl) (fun K hK => ?_)
            go_simp
            with_reducible refine (plus7 vx vy MX.out.1 MX.out.2 vp HVV.out.2.2 _).mono ?_
            rintro e y4 ⟨rfl, rfl⟩

            refine hK.out _ _ (KS.out _ Q3.out) (fun hHeld4 => ?_)
            clear hK K hHeld3
            try simp only [Act.put, List.getElem_toArray, List.getElem_cons_zero, List.getElem_cons_succ, List.setIfInBounds_toArray, List.set_cons_zero, List.set_cons_succ]
            refine wpAnyK_done (by kernel_rfl) ?_
            simp only [List.drop_succ_cons, List.drop_zero]
            clear hHeld4
            go_wp2_with fail
            go_meet
            exact ⟨vh, rfl, HVH, Q3⟩
          case rest =>
          obtain ⟨vh, rfl, HVH, T5⟩ := hcut
          obtain ⟨w5, rfl⟩ : ∃ u : World, u = wc := ⟨_, rfl⟩
          clear T4 Q0
          by_cases hgt : vp < vh
          · have hd3 : decide (vp < vh) = true := decide_eq_true hgt
            rw [hd3]
            go_wp2_with fail
            go_ret
            refine ⟨false, rfl, T5.out.below, fun g => ⟨fun h => (by cases h), fun h => ?_⟩⟩
            have h1 := HLK.out.1 (h k j (by rw [HM.out.1]; exact hlt) (by rw [HM.out.2]; exact hjt)) g
            rw [← HVH.out g] at h1
            omega
          · have hd3 : decide (vp < vh) = false := decide_eq_false hgt
            rw [hd3]
            go_wp2_with fail
            go_roundw
            case rel => exact ⟨j + 1, by go_num, by omega, fun u hu => by
              by_cases e : u = j
              · subst e; exact HLK.out.2 fun g => by rw [← HVH.out g]; omega
              · exact HLJ.out u (by omega), T5⟩
            case measure => simp [intOf]; omega
        · have hd2 : decide (j < M2) = false := decide_eq_false hjt
          rw [hd2]
          obtain rfl : j = M2 := by omega
          go_wp2_with fail
          go_roundw
          case rel => exact ⟨k + 1, by go_num, by omega, fun s u hs hu => by
            by_cases e : s = k
            · subst e; exact HLJ.out u hu
            · exact HLE.out s u (by omega) hu, T4⟩
          case measure => simp [intOf]; omega
    · have hd : decide (k < M1) = false := decide_eq_false hlt
      rw [hd]
      obtain rfl : k = M1 := by omega
      go_wp2_with fail
      go_ret
      exact ⟨true, rfl, T2.out.below, fun g => ⟨fun _ s u hs hu => HLE.out s u (by rw [← HM.out.1]; exact hs) (by rw [← HM.out.2]; exact hu), fun _ => rfl⟩⟩

end Go.Proofs.Ytcbocglakielnaa
